/-
  casketref22.Read.
-/
import Derived.Test.YtnlipmcnpekifaaMoqw
namespace Go.Proofs.Ytnlipmcnpekifaa
set_option maxRecDepth 100000
open Go.RowKit
set_option linter.unusedVariables false
set_option linter.unusedSimpArgs false

set_option maxRecDepth 100000 in
set_option maxHeartbeats 16000000 in
theorem readr_any (w : World) (l : List UInt8) (hm : l.length ≤ 140737488355328) :
    Calls Try.prog 12 #[.string (strOf l)] w (RdRP l w) := by
  obtain ⟨g, hg⟩ : ∃ g, w.heap.size = g := ⟨_, rfl⟩
  obtain ⟨w1, hw1⟩ : ∃ x, w.alloc (.cells (rmC rmZ) 28) = x := ⟨_, rfl⟩
  have B1 := hidm_ (show Below g w w1 by rw [← hw1, ← hg]; exact (Below.refl _ _).alloc (Nat.le_refl _) _)
  have R1 := show Bk w1 g 28 (rmC rmZ) by rw [← hw1, ← hg]; exact Bk.new w _ _
  have S1 := hidm_ (show w1.heap.size = g + 1 by rw [← hw1, ← hg]; simp)
  obtain ⟨gi, hgi⟩ : ∃ x, w1.heap.size = x := ⟨_, rfl⟩
  have GI := hidm_ (show gi = g + 1 by rw [← hgi]; exact S1.out)
  obtain ⟨w2, hw2⟩ : ∃ x, w1.alloc (.cells #[.string (strOf l), .int .i64 0] 90) = x := ⟨_, rfl⟩
  have B2 := hidm_ (show Below gi w1 w2 by rw [← hw2, ← hgi]; exact (Below.refl _ _).alloc (Nat.le_refl _) _)
  have R2 := hidm_ (R1.below B2.out (by rw [← hgi]; exact R1.lt))
  have I2 := hidm_ (show RiL w2 gi l 0 from ⟨l, by rw [← hw2, ← hgi]; exact Bk.new w1 _ _, fun _ => rfl⟩)
  have HG := hidm_ hg
  obtain ⟨k, l1, e1, h1⟩ : ∃ a b c, numS 1 7 l 0 = (a, b, c) := ⟨_, _, _, rfl⟩
  obtain ⟨f, l2, e2, h2⟩ : ∃ a b c, numS 1 8 l1 e1 = (a, b, c) := ⟨_, _, _, rfl⟩
  obtain ⟨a, l3, e3, h3⟩ : ∃ a b c, numS 8 4611686018427387904 l2 e2 = (a, b, c) := ⟨_, _, _, rfl⟩
  have HD := hidm_ (rdMg_of h1 h2 h3)
  have HL3 := hidm_ (show l3.length ≤ 140737488355328 by
    have q1 := numS_le 1 7 l 0
    have q2 := numS_le 1 8 l1 e1
    have q3 := numS_le 8 4611686018427387904 l2 e2
    rw [h1] at q1
    rw [h2] at q2
    rw [h3] at q3
    simp only at q1 q2 q3
    omega)
  have H2 := hidm_ h2
  have H3 := hidm_ h3
  have cs := small_r w2 gi 7 l 0 I2.out (by omega) (by omega)
  rw [h1] at cs
  simp only at cs
  have hz := zRm
  have hb9 := hidm_ (built_90 l)
  have hbk := hidm_ (built_rmk k)
  clear R1 hm h1 h2 h3
  go_enter Try.func12, Try.ntmps12
  go_upto_region 3 with (first
    | (refine wpList_built rfl 90 #[(0, .tmp 10)] rfl #[.string (strOf l), .int .i64 0] (by simp only [List.map_toArray, List.map_cons, List.map_nil]; exact hb9.out) ?_)
    | (go_at_call 41; ((with_reducible refine cs.mono ?_); clear cs; rintro e v0 ⟨rfl, h8, hu⟩; have L0 := hidm_ h8; have U0 := hidm_ hu; have R0 := hidm_ (R2.out.untouched hu (by simp; have := GI.out; omega)); clear h8 hu))
    | (refine wpList_built rfl 28 #[(0, .tmp 14)] rfl (rmC (rm0 k)) (by simp only [List.map_toArray, List.map_cons, List.map_nil]; exact hbk.out) ?_)
    | (refine wpList_put_row rfl 28 (.tmp 5) (.tmp 15) rfl v0.heap.size (rmC (rm0 k)) rfl rfl 28 (rmC rmZ) (Bk.new v0 _ _) (iRm _) rfl (rmC_one _) ?_; intro u1 k3 g3 s3; have M3 := hidm_ (mark_putM v0 u1 v0.heap.size _ rfl g3); have P3 := hidm_ k3; clear k3 g3 s3))
  obtain ⟨gM, hgM⟩ : ∃ x, v0.heap.size = x := ⟨_, rfl⟩
  have T1 := hidm_ (show RrS w g gM gi (rm0 k) l1 e1 u1 by
    have hlt := L0.out.lt
    have hs := B2.out.size
    have hs1 := S1.out
    have hs0 := GI.out
    have b1 : Below g w v0 := (B1.out.trans (B2.out.mono (by omega))).trans (U0.out.below (fun k hk => by rw [List.mem_singleton.1 hk]; omega) (Nat.le_of_lt R2.out.lt))
    exact ⟨R0.out.below M3.out R0.out.lt, by rw [← hgM]; exact P3.out, L0.out.below M3.out L0.out.lt, b1.trans (M3.out.mono (Nat.le_of_lt R0.out.lt)), by omega, by omega⟩)
  rw [hgM]
  clear hz hgM hw1 hw2 hg hgi B1 S1 B2 R2 I2 U0 R0 L0 M3 P3 hb9 hbk
  have cc := T1.out.small 8 (by omega) (by omega) H2.out
  go_upto_region 4 with (go_at_call 41; ((with_reducible refine cc.mono ?_); clear cc; rintro e v1 ⟨rfl, hs, _⟩; have S1 := hidm_ hs; have hcz := (hs.m.cell 1); have hfz := hs.m.frozen 1; simp only [rmC, rm0, List.getElem?_toArray, List.getElem?_cons_zero, List.getElem?_cons_succ] at hcz; clear hs))
  generalize hu : v1.setCell _ _ = u2
  have UT := hidm_ (show Untouched [gM] v1 u2 by rw [← hu]; exact Untouched.set gM 1 (by simp) _)
  have T2 := hidm_ (show RrS w g gM gi (⟨k, f, 0, 0, 0, 0, [], [], [], none, 0, [], none, 0, [], none, 0⟩ : RmV) _ _ u2 from S1.out.put (by rw [← hu]; exact S1.out.m.set_ 1 (.int .i64 f)) UT.out)
  clear UT hu hcz hfz S1 T1
  have cc := T2.out.num 4611686018427387904 (by omega) (by omega) H3.out
  go_upto_region 5 with (go_at_call 42; ((with_reducible refine cc.mono ?_); clear cc; rintro e v2 ⟨rfl, hs, _⟩; have S2 := hidm_ hs; have hcz := (hs.m.cell 2); have hfz := hs.m.frozen 2; simp only [rmC, rm0, List.getElem?_toArray, List.getElem?_cons_zero, List.getElem?_cons_succ] at hcz; clear hs))
  generalize hu : v2.setCell _ _ = u3
  have UT := hidm_ (show Untouched [gM] v2 u3 by rw [← hu]; exact Untouched.set gM 2 (by simp) _)
  have T3 := hidm_ (show RrS w g gM gi (⟨k, f, a, 0, 0, 0, [], [], [], none, 0, [], none, 0, [], none, 0⟩ : RmV) _ _ u3 from S2.out.put (by rw [← hu]; exact S2.out.m.set_ 2 (.int .i64 a)) UT.out)
  clear UT hu hcz hfz S2 T2
  have hc0 : u3.cell? ⟨gM, 0, none⟩ = some (.int .i64 k) := (T3.out.m.cell 0).trans rfl
  by_cases k1 : k = 1
  case pos =>
    subst k1
    obtain ⟨KR, l4, e4, hrow⟩ : ∃ x b c, rowF l3 e3 = (x, b, c) := ⟨_, _, _, rfl⟩
    have cr := take_r u3 gi l3 e3 T3.out.inf HL3.out
    rw [hrow] at cr
    simp only at cr
    go_upto_region 32 with (first
      | (go_at_call 43; ((with_reducible refine cr.mono ?_); clear cr; rintro e v3 ⟨rfl, h8, hU8⟩; have S3 := hidm_ (T3.out.read h8 hU8); clear h8 hU8))
      | (refine wpList_store_midM rfl 23 (.tmp 30) (.tmp 29) rfl gM 6 rfl (rr KR.key KR.set) rfl 28 (rmC (⟨1, f, a, 0, 0, 0, [], [], [], none, 0, [], none, 0, [], none, 0⟩ : RmV)) S3.out.m (iRr _ _) (by show 6 + 2 ≤ 11; decide) (rr_ones _ _) ?_; intro u4 k9 g9 s9; have T4 := hidm_ (show RrS w g gM gi (⟨1, f, a, 0, 0, 0, KR.key, KR.set, [], none, 0, [], none, 0, [], none, 0⟩ : RmV) _ _ u4 from S3.out.put k9 (unt_put g9)); clear k9 g9 s9))
    have HR := hidm_ hrow
    clear T3 S3
    have ce := end_r u4 gi l4 e4 T4.out.inf
    have HDD := hidm_ (show rdMg l = (⟨1, f, a, 0, 0, 0, KR, [], [], []⟩, l4, e4) by rw [HD.out]; unfold rdBody; simp only [HR.out]; rfl)
    by_cases he : endS l4 e4 = 0
    case pos =>
      have hd : (endS l4 e4 != 0) = false := by rw [he]; rfl
      rw [he] at ce hd
      have HOKM := hidm_ (rdMg_ok HDD.out he)
      have HE := hidm_ he
      clear he
      go_wp2_with (first
        | (go_at_call 46; ((with_reducible refine ce.mono ?_); clear ce; rintro e x9 ⟨rfl, rfl⟩))
        | (refine wpList_load_row rfl 28 (.tmp 5) rfl gM rfl 28 (rmC (⟨1, f, a, 0, 0, 0, KR.key, KR.set, [], none, 0, [], none, 0, [], none, 0⟩ : RmV)) (0, 0) _ T4.out.m Try.underlying28 rfl (iRm _) ?_)
        | (refine wpList_put_row rfl 28 (.tmp 2) (.tmp 109) rfl g (rmC (⟨1, f, a, 0, 0, 0, KR.key, KR.set, [], none, 0, [], none, 0, [], none, 0⟩ : RmV)) rfl rfl 28 (rmC rmZ) T4.out.r0 (iRm _) rfl (rmC_one _) ?_; intro y9 k9 g9 s9; have Y9 := hidm_ k9; have UG := hidm_ (unt_put g9); clear k9 g9 s9))
      have HK32 := HOKM.out.2.2.1
      exact bodyPost_ret (results_cell_slotM Try.results12 _ _ g rfl rfl (run_loadVar_row _ _ _ _ _ (0, 0) _ Y9.out Try.underlying28 rfl (iRm _))) rfl ⟨(⟨1, f, a, 0, 0, 0, KR.key, KR.set, [], none, 0, [], none, 0, [], none, 0⟩ : RmV), true, rfl, by rw [HG.out]; exact T4.out.bel.trans (UG.out.below (fun k hk => by rw [List.mem_singleton.1 hk]; exact Nat.le_refl _) (Nat.le_of_lt T4.out.r0.lt)), ⟨RdG.nil, RdG.nil, RdG.nil⟩, Nat.zero_le _, Nat.zero_le _, Nat.zero_le _, Nat.le_of_eq HK32.1, fun _ => ⟨rfl, by rw [HDD.out]; exact nrm_id HK32.1⟩, fun h => absurd (by rw [HDD.out]; exact HE.out) h⟩
    case neg =>
      have HEB := hidm_ (show endS (rdMg l).2.1 (rdMg l).2.2 ≠ 0 by rw [HDD.out]; exact he)
      obtain ⟨E9, hE⟩ : ∃ E, endS l4 e4 = E := ⟨_, rfl⟩
      rw [hE] at ce he
      have hE9 := he
      clear he hE
      have hd : (E9 != 0) = true := by simpa using hE9
      have hd2 : (E9 == 0) = false := by simpa using hE9
      have hd3 : decide (E9 = 0) = false := decide_eq_false hE9
      have hb0 := hidm_ built_rm0
      clear hE9
      go_wp2_with (first
        | (go_at_call 46; ((with_reducible refine ce.mono ?_); clear ce; rintro e x9 ⟨rfl, rfl⟩))
        | (refine wpList_built rfl 28 #[] rfl (rmC rmZ) hb0.out ?_)
        | (refine wpList_put_row rfl 28 (.tmp 2) (.tmp 108) rfl g (rmC rmZ) rfl rfl 28 (rmC rmZ) T4.out.r0 (iRm _) rfl (rmC_one _) ?_; intro y9 k9 g9 s9; have Y9 := hidm_ k9; have UG := hidm_ (unt_put g9); clear k9 g9 s9))
      exact bodyPost_ret (results_cell_slotM Try.results12 _ _ g rfl rfl (run_loadVar_row _ _ _ _ _ (0, 0) _ Y9.out Try.underlying28 rfl (iRm _))) rfl ⟨rmZ, false, rfl, by rw [HG.out]; exact T4.out.bel.trans (UG.out.below (fun k hk => by rw [List.mem_singleton.1 hk]; exact Nat.le_refl _) (Nat.le_of_lt T4.out.r0.lt)), rmZ_ok _ _, Nat.zero_le _, Nat.zero_le _, Nat.zero_le _, Nat.zero_le _, fun h => absurd h HEB.out, fun _ => ⟨rfl, rfl⟩⟩
  by_cases k4 : k = 4
  case pos =>
    subst k4
    obtain ⟨KR, l4, e4, hrow⟩ : ∃ x b c, rowF l3 e3 = (x, b, c) := ⟨_, _, _, rfl⟩
    have cr := take_r u3 gi l3 e3 T3.out.inf HL3.out
    rw [hrow] at cr
    simp only at cr
    go_upto_region 32 with (first
      | (go_at_call 43; ((with_reducible refine cr.mono ?_); clear cr; rintro e v3 ⟨rfl, h8, hU8⟩; have S3 := hidm_ (T3.out.read h8 hU8); clear h8 hU8))
      | (refine wpList_store_midM rfl 23 (.tmp 30) (.tmp 29) rfl gM 6 rfl (rr KR.key KR.set) rfl 28 (rmC (⟨4, f, a, 0, 0, 0, [], [], [], none, 0, [], none, 0, [], none, 0⟩ : RmV)) S3.out.m (iRr _ _) (by show 6 + 2 ≤ 11; decide) (rr_ones _ _) ?_; intro u4 k9 g9 s9; have T4 := hidm_ (show RrS w g gM gi (⟨4, f, a, 0, 0, 0, KR.key, KR.set, [], none, 0, [], none, 0, [], none, 0⟩ : RmV) _ _ u4 from S3.out.put k9 (unt_put g9)); clear k9 g9 s9))
    have HR := hidm_ hrow
    clear T3 S3
    have ce := end_r u4 gi l4 e4 T4.out.inf
    have HDD := hidm_ (show rdMg l = (⟨4, f, a, 0, 0, 0, KR, [], [], []⟩, l4, e4) by rw [HD.out]; unfold rdBody; simp only [HR.out]; rfl)
    by_cases he : endS l4 e4 = 0
    case pos =>
      have hd : (endS l4 e4 != 0) = false := by rw [he]; rfl
      rw [he] at ce hd
      have HOKM := hidm_ (rdMg_ok HDD.out he)
      have HE := hidm_ he
      clear he
      go_wp2_with (first
        | (go_at_call 46; ((with_reducible refine ce.mono ?_); clear ce; rintro e x9 ⟨rfl, rfl⟩))
        | (refine wpList_load_row rfl 28 (.tmp 5) rfl gM rfl 28 (rmC (⟨4, f, a, 0, 0, 0, KR.key, KR.set, [], none, 0, [], none, 0, [], none, 0⟩ : RmV)) (0, 0) _ T4.out.m Try.underlying28 rfl (iRm _) ?_)
        | (refine wpList_put_row rfl 28 (.tmp 2) (.tmp 109) rfl g (rmC (⟨4, f, a, 0, 0, 0, KR.key, KR.set, [], none, 0, [], none, 0, [], none, 0⟩ : RmV)) rfl rfl 28 (rmC rmZ) T4.out.r0 (iRm _) rfl (rmC_one _) ?_; intro y9 k9 g9 s9; have Y9 := hidm_ k9; have UG := hidm_ (unt_put g9); clear k9 g9 s9))
      have HK32 := HOKM.out.2.2.1
      exact bodyPost_ret (results_cell_slotM Try.results12 _ _ g rfl rfl (run_loadVar_row _ _ _ _ _ (0, 0) _ Y9.out Try.underlying28 rfl (iRm _))) rfl ⟨(⟨4, f, a, 0, 0, 0, KR.key, KR.set, [], none, 0, [], none, 0, [], none, 0⟩ : RmV), true, rfl, by rw [HG.out]; exact T4.out.bel.trans (UG.out.below (fun k hk => by rw [List.mem_singleton.1 hk]; exact Nat.le_refl _) (Nat.le_of_lt T4.out.r0.lt)), ⟨RdG.nil, RdG.nil, RdG.nil⟩, Nat.zero_le _, Nat.zero_le _, Nat.zero_le _, Nat.le_of_eq HK32.1, fun _ => ⟨rfl, by rw [HDD.out]; exact nrm_id HK32.1⟩, fun h => absurd (by rw [HDD.out]; exact HE.out) h⟩
    case neg =>
      have HEB := hidm_ (show endS (rdMg l).2.1 (rdMg l).2.2 ≠ 0 by rw [HDD.out]; exact he)
      obtain ⟨E9, hE⟩ : ∃ E, endS l4 e4 = E := ⟨_, rfl⟩
      rw [hE] at ce he
      have hE9 := he
      clear he hE
      have hd : (E9 != 0) = true := by simpa using hE9
      have hd2 : (E9 == 0) = false := by simpa using hE9
      have hd3 : decide (E9 = 0) = false := decide_eq_false hE9
      have hb0 := hidm_ built_rm0
      clear hE9
      go_wp2_with (first
        | (go_at_call 46; ((with_reducible refine ce.mono ?_); clear ce; rintro e x9 ⟨rfl, rfl⟩))
        | (refine wpList_built rfl 28 #[] rfl (rmC rmZ) hb0.out ?_)
        | (refine wpList_put_row rfl 28 (.tmp 2) (.tmp 108) rfl g (rmC rmZ) rfl rfl 28 (rmC rmZ) T4.out.r0 (iRm _) rfl (rmC_one _) ?_; intro y9 k9 g9 s9; have Y9 := hidm_ k9; have UG := hidm_ (unt_put g9); clear k9 g9 s9))
      exact bodyPost_ret (results_cell_slotM Try.results12 _ _ g rfl rfl (run_loadVar_row _ _ _ _ _ (0, 0) _ Y9.out Try.underlying28 rfl (iRm _))) rfl ⟨rmZ, false, rfl, by rw [HG.out]; exact T4.out.bel.trans (UG.out.below (fun k hk => by rw [List.mem_singleton.1 hk]; exact Nat.le_refl _) (Nat.le_of_lt T4.out.r0.lt)), rmZ_ok _ _, Nat.zero_le _, Nat.zero_le _, Nat.zero_le _, Nat.zero_le _, fun h => absurd h HEB.out, fun _ => ⟨rfl, rfl⟩⟩
  by_cases k2 : k = 2
  case pos =>
    subst k2
    obtain ⟨v, l4, e4, h4⟩ : ∃ a b c, numS 1 255 l3 e3 = (a, b, c) := ⟨_, _, _, rfl⟩
    have H4 := hidm_ h4
    clear h4
    have cc := T3.out.small 255 (by omega) (by omega) H4.out
    go_upto_region 32 with (go_at_call 41; ((with_reducible refine cc.mono ?_); clear cc; rintro e v3 ⟨rfl, hs, _⟩; have S3 := hidm_ hs; have hcz := (hs.m.cell 3); have hfz := hs.m.frozen 3; simp only [rmC, rm0, List.getElem?_toArray, List.getElem?_cons_zero, List.getElem?_cons_succ] at hcz; clear hs))
    generalize hu : v3.setCell _ _ = u4
    have UT := hidm_ (show Untouched [gM] v3 u4 by rw [← hu]; exact Untouched.set gM 3 (by simp) _)
    have T4 := hidm_ (show RrS w g gM gi (⟨2, f, a, v, 0, 0, [], [], [], none, 0, [], none, 0, [], none, 0⟩ : RmV) _ _ u4 from S3.out.put (by rw [← hu]; exact S3.out.m.set_ 3 (.int .i64 v)) UT.out)
    clear UT hu hcz hfz S3 T3
    have ce := end_r u4 gi l4 e4 T4.out.inf
    have HDD := hidm_ (show rdMg l = (⟨2, f, a, v, 0, 0, ⟨zbytes 32, []⟩, [], [], []⟩, l4, e4) by rw [HD.out]; unfold rdBody; simp [mg0, H4.out])
    by_cases he : endS l4 e4 = 0
    case pos =>
      have hd : (endS l4 e4 != 0) = false := by rw [he]; rfl
      rw [he] at ce hd
      have HOKM := hidm_ (rdMg_ok HDD.out he)
      have HE := hidm_ he
      clear he
      go_wp2_with (first
        | (go_at_call 46; ((with_reducible refine ce.mono ?_); clear ce; rintro e x9 ⟨rfl, rfl⟩))
        | (refine wpList_load_row rfl 28 (.tmp 5) rfl gM rfl 28 (rmC (⟨2, f, a, v, 0, 0, [], [], [], none, 0, [], none, 0, [], none, 0⟩ : RmV)) (0, 0) _ T4.out.m Try.underlying28 rfl (iRm _) ?_)
        | (refine wpList_put_row rfl 28 (.tmp 2) (.tmp 109) rfl g (rmC (⟨2, f, a, v, 0, 0, [], [], [], none, 0, [], none, 0, [], none, 0⟩ : RmV)) rfl rfl 28 (rmC rmZ) T4.out.r0 (iRm _) rfl (rmC_one _) ?_; intro y9 k9 g9 s9; have Y9 := hidm_ k9; have UG := hidm_ (unt_put g9); clear k9 g9 s9))
      have HK32 := HOKM.out.2.2.1
      exact bodyPost_ret (results_cell_slotM Try.results12 _ _ g rfl rfl (run_loadVar_row _ _ _ _ _ (0, 0) _ Y9.out Try.underlying28 rfl (iRm _))) rfl ⟨(⟨2, f, a, v, 0, 0, [], [], [], none, 0, [], none, 0, [], none, 0⟩ : RmV), true, rfl, by rw [HG.out]; exact T4.out.bel.trans (UG.out.below (fun k hk => by rw [List.mem_singleton.1 hk]; exact Nat.le_refl _) (Nat.le_of_lt T4.out.r0.lt)), ⟨RdG.nil, RdG.nil, RdG.nil⟩, Nat.zero_le _, Nat.zero_le _, Nat.zero_le _, Nat.zero_le _, fun _ => ⟨rfl, by rw [HDD.out]; rfl⟩, fun h => absurd (by rw [HDD.out]; exact HE.out) h⟩
    case neg =>
      have HEB := hidm_ (show endS (rdMg l).2.1 (rdMg l).2.2 ≠ 0 by rw [HDD.out]; exact he)
      obtain ⟨E9, hE⟩ : ∃ E, endS l4 e4 = E := ⟨_, rfl⟩
      rw [hE] at ce he
      have hE9 := he
      clear he hE
      have hd : (E9 != 0) = true := by simpa using hE9
      have hd2 : (E9 == 0) = false := by simpa using hE9
      have hd3 : decide (E9 = 0) = false := decide_eq_false hE9
      have hb0 := hidm_ built_rm0
      clear hE9
      go_wp2_with (first
        | (go_at_call 46; ((with_reducible refine ce.mono ?_); clear ce; rintro e x9 ⟨rfl, rfl⟩))
        | (refine wpList_built rfl 28 #[] rfl (rmC rmZ) hb0.out ?_)
        | (refine wpList_put_row rfl 28 (.tmp 2) (.tmp 108) rfl g (rmC rmZ) rfl rfl 28 (rmC rmZ) T4.out.r0 (iRm _) rfl (rmC_one _) ?_; intro y9 k9 g9 s9; have Y9 := hidm_ k9; have UG := hidm_ (unt_put g9); clear k9 g9 s9))
      exact bodyPost_ret (results_cell_slotM Try.results12 _ _ g rfl rfl (run_loadVar_row _ _ _ _ _ (0, 0) _ Y9.out Try.underlying28 rfl (iRm _))) rfl ⟨rmZ, false, rfl, by rw [HG.out]; exact T4.out.bel.trans (UG.out.below (fun k hk => by rw [List.mem_singleton.1 hk]; exact Nat.le_refl _) (Nat.le_of_lt T4.out.r0.lt)), rmZ_ok _ _, Nat.zero_le _, Nat.zero_le _, Nat.zero_le _, Nat.zero_le _, fun h => absurd h HEB.out, fun _ => ⟨rfl, rfl⟩⟩
  by_cases k3 : k = 3
  case pos =>
    subst k3
    obtain ⟨KK, l4, e4, h4⟩ : ∃ a b c, fixS 32 l3 e3 = (a, b, c) := ⟨_, _, _, rfl⟩
    have H4 := hidm_ h4
    have cr := fixed_r u3 gi l3 e3 T3.out.inf
    rw [h4] at cr
    simp only at cr
    clear h4
    go_upto_region 32 with (go_at_call 44; ((with_reducible refine cr.mono ?_); clear cr; rintro e v3 ⟨rfl, h8, hU8⟩; have S3 := hidm_ (T3.out.read h8 hU8); have hcz := S3.out.m.cell 6; have hfz := S3.out.m.frozen 6; simp only [rmC, rm0, List.getElem?_toArray, List.getElem?_cons_zero, List.getElem?_cons_succ] at hcz; clear h8 hU8))
    generalize hu : v3.setCell _ _ = u4
    have UT := hidm_ (show Untouched [gM] v3 u4 by rw [← hu]; exact Untouched.set gM 6 (by simp) _)
    have T4 := hidm_ (show RrS w g gM gi (⟨3, f, a, 0, 0, 0, KK, [], [], none, 0, [], none, 0, [], none, 0⟩ : RmV) _ _ u4 from S3.out.put (by rw [← hu]; exact S3.out.m.set_ 6 (.string (strOf KK))) UT.out)
    clear UT hu hcz hfz S3 T3
    have ce := end_r u4 gi l4 e4 T4.out.inf
    have HDD := hidm_ (show rdMg l = (⟨3, f, a, 0, 0, 0, ⟨KK, []⟩, [], [], []⟩, l4, e4) by rw [HD.out]; unfold rdBody; simp [mg0, H4.out])
    by_cases he : endS l4 e4 = 0
    case pos =>
      have hd : (endS l4 e4 != 0) = false := by rw [he]; rfl
      rw [he] at ce hd
      have HOKM := hidm_ (rdMg_ok HDD.out he)
      have HE := hidm_ he
      clear he
      go_wp2_with (first
        | (go_at_call 46; ((with_reducible refine ce.mono ?_); clear ce; rintro e x9 ⟨rfl, rfl⟩))
        | (refine wpList_load_row rfl 28 (.tmp 5) rfl gM rfl 28 (rmC (⟨3, f, a, 0, 0, 0, KK, [], [], none, 0, [], none, 0, [], none, 0⟩ : RmV)) (0, 0) _ T4.out.m Try.underlying28 rfl (iRm _) ?_)
        | (refine wpList_put_row rfl 28 (.tmp 2) (.tmp 109) rfl g (rmC (⟨3, f, a, 0, 0, 0, KK, [], [], none, 0, [], none, 0, [], none, 0⟩ : RmV)) rfl rfl 28 (rmC rmZ) T4.out.r0 (iRm _) rfl (rmC_one _) ?_; intro y9 k9 g9 s9; have Y9 := hidm_ k9; have UG := hidm_ (unt_put g9); clear k9 g9 s9))
      have HK32 := HOKM.out.2.2.1
      exact bodyPost_ret (results_cell_slotM Try.results12 _ _ g rfl rfl (run_loadVar_row _ _ _ _ _ (0, 0) _ Y9.out Try.underlying28 rfl (iRm _))) rfl ⟨(⟨3, f, a, 0, 0, 0, KK, [], [], none, 0, [], none, 0, [], none, 0⟩ : RmV), true, rfl, by rw [HG.out]; exact T4.out.bel.trans (UG.out.below (fun k hk => by rw [List.mem_singleton.1 hk]; exact Nat.le_refl _) (Nat.le_of_lt T4.out.r0.lt)), ⟨RdG.nil, RdG.nil, RdG.nil⟩, Nat.zero_le _, Nat.zero_le _, Nat.zero_le _, Nat.le_of_eq HK32.1, fun _ => ⟨rfl, by rw [HDD.out]; exact nrm_id HK32.1⟩, fun h => absurd (by rw [HDD.out]; exact HE.out) h⟩
    case neg =>
      have HEB := hidm_ (show endS (rdMg l).2.1 (rdMg l).2.2 ≠ 0 by rw [HDD.out]; exact he)
      obtain ⟨E9, hE⟩ : ∃ E, endS l4 e4 = E := ⟨_, rfl⟩
      rw [hE] at ce he
      have hE9 := he
      clear he hE
      have hd : (E9 != 0) = true := by simpa using hE9
      have hd2 : (E9 == 0) = false := by simpa using hE9
      have hd3 : decide (E9 = 0) = false := decide_eq_false hE9
      have hb0 := hidm_ built_rm0
      clear hE9
      go_wp2_with (first
        | (go_at_call 46; ((with_reducible refine ce.mono ?_); clear ce; rintro e x9 ⟨rfl, rfl⟩))
        | (refine wpList_built rfl 28 #[] rfl (rmC rmZ) hb0.out ?_)
        | (refine wpList_put_row rfl 28 (.tmp 2) (.tmp 108) rfl g (rmC rmZ) rfl rfl 28 (rmC rmZ) T4.out.r0 (iRm _) rfl (rmC_one _) ?_; intro y9 k9 g9 s9; have Y9 := hidm_ k9; have UG := hidm_ (unt_put g9); clear k9 g9 s9))
      exact bodyPost_ret (results_cell_slotM Try.results12 _ _ g rfl rfl (run_loadVar_row _ _ _ _ _ (0, 0) _ Y9.out Try.underlying28 rfl (iRm _))) rfl ⟨rmZ, false, rfl, by rw [HG.out]; exact T4.out.bel.trans (UG.out.below (fun k hk => by rw [List.mem_singleton.1 hk]; exact Nat.le_refl _) (Nat.le_of_lt T4.out.r0.lt)), rmZ_ok _ _, Nat.zero_le _, Nat.zero_le _, Nat.zero_le _, Nat.zero_le _, fun h => absurd h HEB.out, fun _ => ⟨rfl, rfl⟩⟩
  by_cases k5 : k = 5
  case pos =>
    subst k5
    obtain ⟨v, l4, e4, h4⟩ : ∃ a b c, numS 1 7 l3 e3 = (a, b, c) := ⟨_, _, _, rfl⟩
    have H4 := hidm_ h4
    have HL4 := hidm_ (show l4.length ≤ 140737488355328 by have := numS_le 1 7 l3 e3; rw [h4] at this; exact Nat.le_trans this HL3.out)
    clear h4
    have cc := T3.out.small 7 (by omega) (by omega) H4.out
    go_upto_region 16 with (go_at_call 41; ((with_reducible refine cc.mono ?_); clear cc; rintro e v3 ⟨rfl, hs, _⟩; have S3 := hidm_ hs; have hcz := (hs.m.cell 4); have hfz := hs.m.frozen 4; simp only [rmC, rm0, List.getElem?_toArray, List.getElem?_cons_zero, List.getElem?_cons_succ] at hcz; clear hs))
    generalize hu : v3.setCell _ _ = u4
    have UT := hidm_ (show Untouched [gM] v3 u4 by rw [← hu]; exact Untouched.set gM 4 (by simp) _)
    have T4 := hidm_ (show RrS w g gM gi (⟨5, f, a, 0, v, 0, [], [], [], none, 0, [], none, 0, [], none, 0⟩ : RmV) _ _ u4 from S3.out.put (by rw [← hu]; exact S3.out.m.set_ 4 (.int .i64 v)) UT.out)
    clear UT hu hcz hfz S3 T3
    obtain ⟨KR, l5, e5, hrow⟩ : ∃ x b c, rowF l4 e4 = (x, b, c) := ⟨_, _, _, rfl⟩
    have cr := take_r u4 gi l4 e4 T4.out.inf HL4.out
    rw [hrow] at cr
    simp only at cr
    go_upto_region 32 with (first
      | (go_at_call 43; ((with_reducible refine cr.mono ?_); clear cr; rintro e v4 ⟨rfl, h8, hU8⟩; have S4 := hidm_ (T4.out.read h8 hU8); clear h8 hU8))
      | (refine wpList_store_midM rfl 23 (.tmp 49) (.tmp 48) rfl gM 6 rfl (rr KR.key KR.set) rfl 28 (rmC (⟨5, f, a, 0, v, 0, [], [], [], none, 0, [], none, 0, [], none, 0⟩ : RmV)) S4.out.m (iRr _ _) (by show 6 + 2 ≤ 11; decide) (rr_ones _ _) ?_; intro u5 k9 g9 s9; have T5 := hidm_ (show RrS w g gM gi (⟨5, f, a, 0, v, 0, KR.key, KR.set, [], none, 0, [], none, 0, [], none, 0⟩ : RmV) _ _ u5 from S4.out.put k9 (unt_put g9)); clear k9 g9 s9))
    have HR := hidm_ hrow
    clear T4 S4
    have ce := end_r u5 gi l5 e5 T5.out.inf
    have HDD := hidm_ (show rdMg l = (⟨5, f, a, 0, v, 0, KR, [], [], []⟩, l5, e5) by rw [HD.out]; unfold rdBody; simp [mg0, H4.out, HR.out])
    by_cases he : endS l5 e5 = 0
    case pos =>
      have hd : (endS l5 e5 != 0) = false := by rw [he]; rfl
      rw [he] at ce hd
      have HOKM := hidm_ (rdMg_ok HDD.out he)
      have HE := hidm_ he
      clear he
      go_wp2_with (first
        | (go_at_call 46; ((with_reducible refine ce.mono ?_); clear ce; rintro e x9 ⟨rfl, rfl⟩))
        | (refine wpList_load_row rfl 28 (.tmp 5) rfl gM rfl 28 (rmC (⟨5, f, a, 0, v, 0, KR.key, KR.set, [], none, 0, [], none, 0, [], none, 0⟩ : RmV)) (0, 0) _ T5.out.m Try.underlying28 rfl (iRm _) ?_)
        | (refine wpList_put_row rfl 28 (.tmp 2) (.tmp 109) rfl g (rmC (⟨5, f, a, 0, v, 0, KR.key, KR.set, [], none, 0, [], none, 0, [], none, 0⟩ : RmV)) rfl rfl 28 (rmC rmZ) T5.out.r0 (iRm _) rfl (rmC_one _) ?_; intro y9 k9 g9 s9; have Y9 := hidm_ k9; have UG := hidm_ (unt_put g9); clear k9 g9 s9))
      have HK32 := HOKM.out.2.2.1
      exact bodyPost_ret (results_cell_slotM Try.results12 _ _ g rfl rfl (run_loadVar_row _ _ _ _ _ (0, 0) _ Y9.out Try.underlying28 rfl (iRm _))) rfl ⟨(⟨5, f, a, 0, v, 0, KR.key, KR.set, [], none, 0, [], none, 0, [], none, 0⟩ : RmV), true, rfl, by rw [HG.out]; exact T5.out.bel.trans (UG.out.below (fun k hk => by rw [List.mem_singleton.1 hk]; exact Nat.le_refl _) (Nat.le_of_lt T5.out.r0.lt)), ⟨RdG.nil, RdG.nil, RdG.nil⟩, Nat.zero_le _, Nat.zero_le _, Nat.zero_le _, Nat.le_of_eq HK32.1, fun _ => ⟨rfl, by rw [HDD.out]; exact nrm_id HK32.1⟩, fun h => absurd (by rw [HDD.out]; exact HE.out) h⟩
    case neg =>
      have HEB := hidm_ (show endS (rdMg l).2.1 (rdMg l).2.2 ≠ 0 by rw [HDD.out]; exact he)
      obtain ⟨E9, hE⟩ : ∃ E, endS l5 e5 = E := ⟨_, rfl⟩
      rw [hE] at ce he
      have hE9 := he
      clear he hE
      have hd : (E9 != 0) = true := by simpa using hE9
      have hd2 : (E9 == 0) = false := by simpa using hE9
      have hd3 : decide (E9 = 0) = false := decide_eq_false hE9
      have hb0 := hidm_ built_rm0
      clear hE9
      go_wp2_with (first
        | (go_at_call 46; ((with_reducible refine ce.mono ?_); clear ce; rintro e x9 ⟨rfl, rfl⟩))
        | (refine wpList_built rfl 28 #[] rfl (rmC rmZ) hb0.out ?_)
        | (refine wpList_put_row rfl 28 (.tmp 2) (.tmp 108) rfl g (rmC rmZ) rfl rfl 28 (rmC rmZ) T5.out.r0 (iRm _) rfl (rmC_one _) ?_; intro y9 k9 g9 s9; have Y9 := hidm_ k9; have UG := hidm_ (unt_put g9); clear k9 g9 s9))
      exact bodyPost_ret (results_cell_slotM Try.results12 _ _ g rfl rfl (run_loadVar_row _ _ _ _ _ (0, 0) _ Y9.out Try.underlying28 rfl (iRm _))) rfl ⟨rmZ, false, rfl, by rw [HG.out]; exact T5.out.bel.trans (UG.out.below (fun k hk => by rw [List.mem_singleton.1 hk]; exact Nat.le_refl _) (Nat.le_of_lt T5.out.r0.lt)), rmZ_ok _ _, Nat.zero_le _, Nat.zero_le _, Nat.zero_le _, Nat.zero_le _, fun h => absurd h HEB.out, fun _ => ⟨rfl, rfl⟩⟩
  by_cases k6 : k = 6
  case pos =>
    subst k6
    obtain ⟨v, l4, e4, h4⟩ : ∃ a b c, numS 1 4 l3 e3 = (a, b, c) := ⟨_, _, _, rfl⟩
    have H4 := hidm_ h4
    have HL4 := hidm_ (show l4.length ≤ 140737488355328 by have := numS_le 1 4 l3 e3; rw [h4] at this; exact Nat.le_trans this HL3.out)
    clear h4
    have cc := T3.out.small 4 (by omega) (by omega) H4.out
    go_upto_region 19 with (go_at_call 41; ((with_reducible refine cc.mono ?_); clear cc; rintro e v3 ⟨rfl, hs, _⟩; have S3 := hidm_ hs; have hcz := (hs.m.cell 5); have hfz := hs.m.frozen 5; simp only [rmC, rm0, List.getElem?_toArray, List.getElem?_cons_zero, List.getElem?_cons_succ] at hcz; clear hs))
    generalize hu : v3.setCell _ _ = u4
    have UT := hidm_ (show Untouched [gM] v3 u4 by rw [← hu]; exact Untouched.set gM 5 (by simp) _)
    have T4 := hidm_ (show RrS w g gM gi (⟨6, f, a, 0, 0, v, [], [], [], none, 0, [], none, 0, [], none, 0⟩ : RmV) _ _ u4 from S3.out.put (by rw [← hu]; exact S3.out.m.set_ 5 (.int .i64 v)) UT.out)
    clear UT hu hcz hfz S3 T3
    obtain ⟨Xc, l5, e5, h5⟩ : ∃ x b c, cntF atF l4 e4 = (x, b, c) := ⟨_, _, _, rfl⟩
    have HXA := hidm_ h5
    have HL5 := hidm_ (show l5.length ≤ 140737488355328 by have := cntF_le (f := atF) atF_le l4 e4; rw [h5] at this; exact Nat.le_trans this HL4.out)
    have cn := numbers_r u4 gi l4 e4 T4.out.inf
    rw [h5] at cn
    simp only at cn
    clear h5
    go_upto_region 20 with (go_at_call 45; ((with_reducible refine cn.mono ?_); clear cn; rintro e v4 ⟨Aa, ca, Xa, rfl, hO8, h8, hU8, hX8, hn8⟩; have OA1 := hidm_ (hO8.lower (show gM + 1 ≤ _ from T4.out.m.lt)); have HXX := hidm_ hX8; have S4 := hidm_ (T4.out.read h8 hU8); have hcz := S4.out.m.cell 8; have hfz := S4.out.m.frozen 8; simp only [rmC, rm0, List.getElem?_toArray, List.getElem?_cons_zero, List.getElem?_cons_succ] at hcz; have NA := hidm_ hn8; clear h8 hU8 hO8 hX8 hn8))
    generalize hu : v4.setCell _ _ = u5
    have UT := hidm_ (show Untouched [gM] v4 u5 by rw [← hu]; exact Untouched.set gM 8 (by simp) _)
    have T5 := hidm_ (show RrS w g gM gi (⟨6, f, a, 0, 0, v, [], [], Xa, Aa, ca, [], none, 0, [], none, 0⟩ : RmV) _ _ u5 from S4.out.put (by rw [← hu]; exact S4.out.m.set_ 8 (.slice Aa Xa.length ca)) UT.out)
    have OA2 := hidm_ (OA1.out.keep UT.out (fun k hk hm => by have h9 := List.mem_singleton.1 hm; have := (OA1.out.lt k hk).1; omega))
    clear UT hu hcz hfz S4 T4 OA1
    obtain ⟨v9, l6, e6, h6⟩ : ∃ x b c, numS 1 255 l5 e5 = (x, b, c) := ⟨_, _, _, rfl⟩
    have v0 : 0 ≤ v9 := by have := numS_nn 1 255 l5 e5; rw [h6] at this; exact this
    have v1 : v9 ≤ 255 := by have := numS_most 1 255 (by omega) l5 e5; rw [h6] at this; exact this
    have HL6 := hidm_ (show l6.length ≤ 140737488355328 by have := numS_le 1 255 l5 e5; rw [h6] at this; exact Nat.le_trans this HL5.out)
    obtain ⟨n, hn⟩ : ∃ n : Nat, v9 = (n : Int) := ⟨v9.toNat, by omega⟩
    subst hn
    have n255 : n ≤ 255 := by omega
    have cc := T5.out.small 255 (by omega) (by omega) h6
    have HCT := hidm_ h6
    clear v0 v1 h6
    go_upto_region 22 with (go_at_call 41; ((with_reducible refine cc.mono ?_); clear cc; rintro e u6 ⟨rfl, hs, hu⟩; have T6 := hidm_ hs; have OA3 := hidm_ (OA2.out.keep hu (fun k hk hm => by have h9 := List.mem_singleton.1 hm; have := (OA2.out.lt k hk).1; have := hs.ord; omega)); clear hs hu))
    clear T5 OA2
    go_loopw [7] (fun i wr => ∃ (k : Nat) (ms : List (List UInt8)) (A1 : Option Addr) (c1 : Nat), i = .int .i64 k ∧ k ≤ n ∧ Hid (ms = (rdF digF k l6 e6).1) ∧ Hid (OwnG strE 9 wr (gM + 1) (.slice A1 k c1) ms) ∧ Hid (OwnG intE 3 wr (gM + 1) (.slice Aa Xa.length ca) Xa) ∧ Hid (RrS w g gM gi (⟨6, f, a, 0, 0, v, [], [], Xa, Aa, ca, ms, A1, c1, [], none, 0⟩ : RmV) (rdF digF k l6 e6).2.1 (rdF digF k l6 e6).2.2 wr)) (fun i _ => n - (intOf i).toNat)
    case atStart => exact ⟨0, [], none, 0, rfl, Nat.zero_le _, hidm_ rfl, hidm_ (OwnG.nil_ _ _ _), OA3, T6⟩
    case round =>
      obtain ⟨k, ms, A1, c1, rfl, hk, HMS, HO, HA, HT⟩ := hrel
      clear OA3 T6
      obtain ⟨lk, hlk⟩ : ∃ x, (rdF digF k l6 e6).2.1 = x := ⟨_, rfl⟩
      obtain ⟨ek, hek⟩ : ∃ x, (rdF digF k l6 e6).2.2 = x := ⟨_, rfl⟩
      have HML := hidm_ (show ms.length = k by rw [HMS.out]; exact rdF_len l6 e6 k)
      have HLK := hidm_ (show lk.length ≤ 140737488355328 by rw [← hlk]; exact Nat.le_trans (rdF_le (f := digF) digF_le l6 e6 k) HL6.out)
      rw [hlk, hek] at HT
      by_cases hlt : k < n
      · have tl : (k : Int) < (n : Int) := by omega
        have hce := HT.out.inf.e1
        by_cases he : ek = 0
        · subst he
          go_upto_region 24 with fail
          rename_i K7 hK7
          have TD := hidm_ (show RrS w g gM gi (⟨6, f, a, 0, 0, v, [], [], Xa, Aa, ca, ms, A1, c1, [], none, 0⟩ : RmV) lk 0 wr.drew from HT.out.drew_)
          have OD := hidm_ (show OwnG strE 9 wr.drew (gM + 1) (.slice A1 k c1) ms from HO.out)
          have AD := hidm_ (show OwnG intE 3 wr.drew (gM + 1) (.slice Aa Xa.length ca) Xa from HA.out)
          have hcd := HT.out.m.cell 9
          rw [show (rmC (⟨6, f, a, 0, 0, v, [], [], Xa, Aa, ca, ms, A1, c1, [], none, 0⟩ : RmV))[9]? = some (.slice A1 ms.length c1) from rfl, HML.out] at hcd
          clear hce HO HA HT
          have ci := fixed_r wr.drew gi lk 0 TD.out.inf
          obtain ⟨z, l9, e9, hz⟩ : ∃ a b c, digF lk 0 = (a, b, c) := ⟨_, _, _, rfl⟩
          have HR1 := hidm_ (show rdF digF (k + 1) l6 e6 = (ms ++ [z], l9, e9) from rdF_succ (by rw [HMS.out, ← hlk, ← hek]) hz)
          unfold digF at hz
          rw [hz] at ci
          try simp only at ci
          clear hlk hek hz
          go_region_law (first
            | (refine step_oneGg strE Try.underlying25 infoStr (by decide) rfl (.tmp 75) rfl #[.string (strOf z)] rfl z rfl ?_; rw [hw6])
            | (refine step_appGg rfl (.tmp 73) (.tmp 76) rfl Try.underlying25 infoStr O6.out rfl 1 1 rfl RA.out rfl (by have := HML.out; have := n255; omega) (by decide) (by have := T6.out.m.lt; omega) ?_; intro A2 c2 w7 k1 k2 k3; rw [HML.out] at k1 k3 ⊢; have O7 := hidm_ k1; have T7 := hidm_ (T6.out.grow k2 (fun j hj => (O6.out.lt j hj).1)); have A7 := hidm_ (A6.out.kept k2 (own_apart A6.out O6.out (by decide))); have hc7 := T7.out.m.cell 9; have hf7 := T7.out.m.frozen 9; rw [show (rmC (⟨6, f, a, 0, 0, v, [], [], Xa, Aa, ca, ms, A1, c1, [], none, 0⟩ : RmV))[9]? = some (.slice A1 ms.length c1) from rfl] at hc7; clear k1 k2 k3)
            | (go_simp; go_at_call 44; ((with_reducible refine ci.mono ?_); clear ci; rintro e w5 ⟨rfl, hI5, hU5⟩; have T5 := hidm_ (TD.out.read hI5 hU5); have O5 := hidm_ (OD.out.keep hU5 (fun k hk hm => by have h9 := List.mem_singleton.1 hm; have := (OD.out.lt k hk).1; have := TD.out.ord; omega)); have A5 := hidm_ (AD.out.keep hU5 (fun k hk hm => by have h9 := List.mem_singleton.1 hm; have := (AD.out.lt k hk).1; have := TD.out.ord; omega)); clear hI5 hU5; obtain ⟨w6, hw6⟩ : ∃ x, w5.alloc (.cells #[.string (strOf z)] 9) = x := ⟨_, rfl⟩; have B6 := hidm_ (show Below w5.heap.size w5 w6 by rw [← hw6]; exact (Below.refl _ _).alloc (Nat.le_refl _) _); have K6 := hidm_ (show Bk w6 w5.heap.size 9 (strE.c z).toArray by rw [← hw6]; exact Bk.new w5 _ _); have RA := hidm_ (RdG.of_block K6.out K6.out.lt); have O6 := hidm_ (O5.out.below B6.out (Nat.le_refl _)); have A6 := hidm_ (A5.out.below B6.out (Nat.le_refl _)); have T6 := hidm_ (T5.out.low B6.out); have hc5 := T5.out.m.cell 9; rw [show (rmC (⟨6, f, a, 0, 0, v, [], [], Xa, Aa, ca, ms, A1, c1, [], none, 0⟩ : RmV))[9]? = some (.slice A1 ms.length c1) from rfl, HML.out] at hc5; have hc6 := T6.out.m.cell 9; rw [show (rmC (⟨6, f, a, 0, 0, v, [], [], Xa, Aa, ca, ms, A1, c1, [], none, 0⟩ : RmV))[9]? = some (.slice A1 ms.length c1) from rfl, HML.out] at hc6)))
          all_goals
            generalize hu8 : w7.setCell _ _ = w8
            have UT8 := hidm_ (show Untouched [gM] w7 w8 by rw [← hu8]; exact Untouched.set gM 9 (by simp) _)
            have T8 := hidm_ (show RrS w g gM gi (⟨6, f, a, 0, 0, v, [], [], Xa, Aa, ca, (ms ++ [z]), A2, c2, [], none, 0⟩ : RmV) l9 e9 w8 from T7.out.put (by
              rw [← hu8]
              have k9 := T7.out.m.set_ 9 (.slice A2 (k + 1) c2)
              have e9 : (rmC (⟨6, f, a, 0, 0, v, [], [], Xa, Aa, ca, ms, A1, c1, [], none, 0⟩ : RmV)).setIfInBounds 9 (.slice A2 (k + 1) c2) = rmC (⟨6, f, a, 0, 0, v, [], [], Xa, Aa, ca, (ms ++ [z]), A2, c2, [], none, 0⟩ : RmV) := by
                unfold rmC
                simp [HML.out]
              rw [e9] at k9
              exact k9) UT8.out)
            have O8 := hidm_ (O7.out.keep UT8.out (fun k hk hm => by have h9 := List.mem_singleton.1 hm; have := (O7.out.lt k hk).1; omega))
            have A8 := hidm_ (A7.out.keep UT8.out (fun k hk hm => by have h9 := List.mem_singleton.1 hm; have := (A7.out.lt k hk).1; omega))
            clear hu8 UT8 hc7 hf7 hc5 hc6 hcd hw6
            go_wp2
            go_roundw
            case rel => exact ⟨k + 1, ms ++ [z], A2, c2, by go_num, by omega, hidm_ (by rw [HR1.out]), O8, A8, hidm_ (by rw [HR1.out]; exact T8.out)⟩
            case measure => simp [intOf]; omega
        · have hde : (ek == 0) = false := by simpa using he
          have HER := hidm_ (show (rdF digF n l6 e6).2.2 = ek by rw [rdF_err digF_off (m := k) (n := n) hk (by rw [hek]; exact he), hek])
          have ce := end_r wr gi lk ek HT.out.inf
          rw [endS_err _ _ he] at ce
          have HEB := hidm_ (show endS (rdMg l).2.1 (rdMg l).2.2 ≠ 0 by rw [HD.out]; exact eb6 H4.out HXA.out HCT.out HER.out he)
          obtain ⟨E9, hE⟩ : ∃ x, ek = x := ⟨_, rfl⟩
          rw [hE] at ce he HT hde hce
          have hE9 := he
          clear hlk hek he hE HER
          have hd : (E9 != 0) = true := by simpa using hE9
          have hd2 : (E9 == 0) = false := by simpa using hE9
          have hd3 : decide (E9 = 0) = false := decide_eq_false hE9
          have hb0 := hidm_ built_rm0
          clear hE9
          go_wp2_with (first
            | (go_at_call 46; ((with_reducible refine ce.mono ?_); clear ce; rintro e x9 ⟨rfl, rfl⟩))
            | (refine wpList_built rfl 28 #[] rfl (rmC rmZ) hb0.out ?_)
            | (refine wpList_put_row rfl 28 (.tmp 2) (.tmp 108) rfl g (rmC rmZ) rfl rfl 28 (rmC rmZ) HT.out.r0 (iRm _) rfl (rmC_one _) ?_; intro y9 k9 g9 s9; have Y9 := hidm_ k9; have UG := hidm_ (unt_put g9); clear k9 g9 s9))
          exact bodyPost_ret (results_cell_slotM Try.results12 _ _ g rfl rfl (run_loadVar_row _ _ _ _ _ (0, 0) _ Y9.out Try.underlying28 rfl (iRm _))) rfl ⟨rmZ, false, rfl, by rw [HG.out]; exact HT.out.bel.trans (UG.out.below (fun k hk => by rw [List.mem_singleton.1 hk]; exact Nat.le_refl _) (Nat.le_of_lt HT.out.r0.lt)), rmZ_ok _ _, Nat.zero_le _, Nat.zero_le _, Nat.zero_le _, Nat.zero_le _, fun h => absurd h HEB.out, fun _ => ⟨rfl, rfl⟩⟩
      · have tl : ¬ (k : Int) < (n : Int) := by omega
        obtain rfl : k = n := by omega
        have HX := hidm_ (show rdF digF k l6 e6 = (ms, lk, ek) by rw [HMS.out, ← hlk, ← hek])
        have hkl := HML.out.symm
        have HO9 := hidm_ (show OwnG strE 9 wr (gM + 1) (.slice A1 ms.length c1) ms by rw [HML.out]; exact HO.out)
        clear hlk hek HMS HO
        have ce := end_r wr gi lk ek HT.out.inf
        have HDD := hidm_ (show rdMg l = (⟨6, f, a, 0, 0, v, ⟨zbytes 32, []⟩, Xc, ms, []⟩, lk, ek) by rw [HD.out]; unfold rdBody; simp [mg0, H4.out, HXA.out, cntF_of HCT.out (show rdF digF (k : Int).toNat l6 e6 = _ from HX.out)])
        by_cases he : endS lk ek = 0
        case pos =>
          have hd : (endS lk ek != 0) = false := by rw [he]; rfl
          rw [he] at ce hd
          have HOKM := hidm_ (rdMg_ok HDD.out he)
          have HE := hidm_ he
          clear he
          go_wp2_with (first
            | (go_at_call 46; ((with_reducible refine ce.mono ?_); clear ce; rintro e x9 ⟨rfl, rfl⟩))
            | (refine wpList_load_row rfl 28 (.tmp 5) rfl gM rfl 28 (rmC (⟨6, f, a, 0, 0, v, [], [], Xa, Aa, ca, ms, A1, c1, [], none, 0⟩ : RmV)) (0, 0) _ HT.out.m Try.underlying28 rfl (iRm _) ?_)
            | (refine wpList_put_row rfl 28 (.tmp 2) (.tmp 109) rfl g (rmC (⟨6, f, a, 0, 0, v, [], [], Xa, Aa, ca, ms, A1, c1, [], none, 0⟩ : RmV)) rfl rfl 28 (rmC rmZ) HT.out.r0 (iRm _) rfl (rmC_one _) ?_; intro y9 k9 g9 s9; have Y9 := hidm_ k9; have UG := hidm_ (unt_put g9); clear k9 g9 s9))
          have HK32 := HOKM.out.2.2.1
          exact bodyPost_ret (results_cell_slotM Try.results12 _ _ g rfl rfl (run_loadVar_row _ _ _ _ _ (0, 0) _ Y9.out Try.underlying28 rfl (iRm _))) rfl ⟨(⟨6, f, a, 0, 0, v, [], [], Xa, Aa, ca, ms, A1, c1, [], none, 0⟩ : RmV), true, rfl, by rw [HG.out]; exact HT.out.bel.trans (UG.out.below (fun k hk => by rw [List.mem_singleton.1 hk]; exact Nat.le_refl _) (Nat.le_of_lt HT.out.r0.lt)), ⟨(HA.out.keep UG.out (fun k hk hm => by have h9 := List.mem_singleton.1 hm; have := (HA.out.lt k hk).1; have := HT.out.ord; omega)).rd.1, (HO9.out.keep UG.out (fun k hk hm => by have h9 := List.mem_singleton.1 hm; have := (HO9.out.lt k hk).1; have := HT.out.ord; omega)).rd.1, RdG.nil⟩, NA.out, (by show ms.length ≤ 255; rw [HML.out]; exact n255), Nat.zero_le _, Nat.zero_le _, fun _ => ⟨rfl, by rw [HDD.out]; show nrm (⟨6, f, a, 0, 0, v, ⟨[], []⟩, Xa, ms, []⟩ : MgV) = _; rw [HXX.out (e5_zero HCT.out HX.out (endS_ok HE.out).1)]; rfl⟩, fun h => absurd (by rw [HDD.out]; exact HE.out) h⟩
        case neg =>
          have HEB := hidm_ (show endS (rdMg l).2.1 (rdMg l).2.2 ≠ 0 by rw [HDD.out]; exact he)
          obtain ⟨E9, hE⟩ : ∃ E, endS lk ek = E := ⟨_, rfl⟩
          rw [hE] at ce he
          have hE9 := he
          clear he hE
          have hd : (E9 != 0) = true := by simpa using hE9
          have hd2 : (E9 == 0) = false := by simpa using hE9
          have hd3 : decide (E9 = 0) = false := decide_eq_false hE9
          have hb0 := hidm_ built_rm0
          clear hE9
          go_wp2_with (first
            | (go_at_call 46; ((with_reducible refine ce.mono ?_); clear ce; rintro e x9 ⟨rfl, rfl⟩))
            | (refine wpList_built rfl 28 #[] rfl (rmC rmZ) hb0.out ?_)
            | (refine wpList_put_row rfl 28 (.tmp 2) (.tmp 108) rfl g (rmC rmZ) rfl rfl 28 (rmC rmZ) HT.out.r0 (iRm _) rfl (rmC_one _) ?_; intro y9 k9 g9 s9; have Y9 := hidm_ k9; have UG := hidm_ (unt_put g9); clear k9 g9 s9))
          exact bodyPost_ret (results_cell_slotM Try.results12 _ _ g rfl rfl (run_loadVar_row _ _ _ _ _ (0, 0) _ Y9.out Try.underlying28 rfl (iRm _))) rfl ⟨rmZ, false, rfl, by rw [HG.out]; exact HT.out.bel.trans (UG.out.below (fun k hk => by rw [List.mem_singleton.1 hk]; exact Nat.le_refl _) (Nat.le_of_lt HT.out.r0.lt)), rmZ_ok _ _, Nat.zero_le _, Nat.zero_le _, Nat.zero_le _, Nat.zero_le _, fun h => absurd h HEB.out, fun _ => ⟨rfl, rfl⟩⟩
  by_cases k7 : k = 7
  case pos =>
    subst k7
    obtain ⟨Xc, l4, e4, h4⟩ : ∃ x b c, cntF atF l3 e3 = (x, b, c) := ⟨_, _, _, rfl⟩
    have HXA := hidm_ h4
    have HL4 := hidm_ (show l4.length ≤ 140737488355328 by have := cntF_le (f := atF) atF_le l3 e3; rw [h4] at this; exact Nat.le_trans this HL3.out)
    have cn := numbers_r u3 gi l3 e3 T3.out.inf
    rw [h4] at cn
    simp only at cn
    clear h4
    go_upto_region 27 with (go_at_call 45; ((with_reducible refine cn.mono ?_); clear cn; rintro e v3 ⟨Aa, ca, Xa, rfl, hO8, h8, hU8, hX8, hn8⟩; have OA1 := hidm_ (hO8.lower (show gM + 1 ≤ _ from T3.out.m.lt)); have HXX := hidm_ hX8; have S3 := hidm_ (T3.out.read h8 hU8); have hcz := S3.out.m.cell 8; have hfz := S3.out.m.frozen 8; simp only [rmC, rm0, List.getElem?_toArray, List.getElem?_cons_zero, List.getElem?_cons_succ] at hcz; have NA := hidm_ hn8; clear h8 hU8 hO8 hX8 hn8))
    generalize hu : v3.setCell _ _ = u4
    have UT := hidm_ (show Untouched [gM] v3 u4 by rw [← hu]; exact Untouched.set gM 8 (by simp) _)
    have T4 := hidm_ (show RrS w g gM gi (⟨7, f, a, 0, 0, 0, [], [], Xa, Aa, ca, [], none, 0, [], none, 0⟩ : RmV) _ _ u4 from S3.out.put (by rw [← hu]; exact S3.out.m.set_ 8 (.slice Aa Xa.length ca)) UT.out)
    have OA2 := hidm_ (OA1.out.keep UT.out (fun k hk hm => by have h9 := List.mem_singleton.1 hm; have := (OA1.out.lt k hk).1; omega))
    clear UT hu hcz hfz S3 T3 OA1
    obtain ⟨v9, l5, e5, h5⟩ : ∃ x b c, numS 1 255 l4 e4 = (x, b, c) := ⟨_, _, _, rfl⟩
    have v0 : 0 ≤ v9 := by have := numS_nn 1 255 l4 e4; rw [h5] at this; exact this
    have v1 : v9 ≤ 255 := by have := numS_most 1 255 (by omega) l4 e4; rw [h5] at this; exact this
    have HL5 := hidm_ (show l5.length ≤ 140737488355328 by have := numS_le 1 255 l4 e4; rw [h5] at this; exact Nat.le_trans this HL4.out)
    obtain ⟨n, hn⟩ : ∃ n : Nat, v9 = (n : Int) := ⟨v9.toNat, by omega⟩
    subst hn
    have n255 : n ≤ 255 := by omega
    have cc := T4.out.small 255 (by omega) (by omega) h5
    have HCT := hidm_ h5
    clear v0 v1 h5
    go_upto_region 29 with (go_at_call 41; ((with_reducible refine cc.mono ?_); clear cc; rintro e u5 ⟨rfl, hs, hu⟩; have T5 := hidm_ hs; have OA3 := hidm_ (OA2.out.keep hu (fun k hk hm => by have h9 := List.mem_singleton.1 hm; have := (OA2.out.lt k hk).1; have := hs.ord; omega)); clear hs hu))
    clear T4 OA2
    go_loopw [9] (fun i wr => ∃ (k : Nat) (ms : List KrV) (A1 : Option Addr) (c1 : Nat), i = .int .i64 k ∧ k ≤ n ∧ Hid (ms = (rdF rowF k l5 e5).1) ∧ Hid (OwnG rrE 23 wr (gM + 1) (.slice A1 k c1) ms) ∧ Hid (OwnG intE 3 wr (gM + 1) (.slice Aa Xa.length ca) Xa) ∧ Hid (RrS w g gM gi (⟨7, f, a, 0, 0, 0, [], [], Xa, Aa, ca, [], none, 0, ms, A1, c1⟩ : RmV) (rdF rowF k l5 e5).2.1 (rdF rowF k l5 e5).2.2 wr)) (fun i _ => n - (intOf i).toNat)
    case atStart => exact ⟨0, [], none, 0, rfl, Nat.zero_le _, hidm_ rfl, hidm_ (OwnG.nil_ _ _ _), OA3, T5⟩
    case round =>
      obtain ⟨k, ms, A1, c1, rfl, hk, HMS, HO, HA, HT⟩ := hrel
      clear OA3 T5
      obtain ⟨lk, hlk⟩ : ∃ x, (rdF rowF k l5 e5).2.1 = x := ⟨_, rfl⟩
      obtain ⟨ek, hek⟩ : ∃ x, (rdF rowF k l5 e5).2.2 = x := ⟨_, rfl⟩
      have HML := hidm_ (show ms.length = k by rw [HMS.out]; exact rdF_len l5 e5 k)
      have HLK := hidm_ (show lk.length ≤ 140737488355328 by rw [← hlk]; exact Nat.le_trans (rdF_le (f := rowF) rowF_le l5 e5 k) HL5.out)
      rw [hlk, hek] at HT
      by_cases hlt : k < n
      · have tl : (k : Int) < (n : Int) := by omega
        have hce := HT.out.inf.e1
        by_cases he : ek = 0
        · subst he
          go_upto_region 31 with fail
          rename_i K7 hK7
          have TD := hidm_ (show RrS w g gM gi (⟨7, f, a, 0, 0, 0, [], [], Xa, Aa, ca, [], none, 0, ms, A1, c1⟩ : RmV) lk 0 wr.drew from HT.out.drew_)
          have OD := hidm_ (show OwnG rrE 23 wr.drew (gM + 1) (.slice A1 k c1) ms from HO.out)
          have AD := hidm_ (show OwnG intE 3 wr.drew (gM + 1) (.slice Aa Xa.length ca) Xa from HA.out)
          have hcd := HT.out.m.cell 10
          rw [show (rmC (⟨7, f, a, 0, 0, 0, [], [], Xa, Aa, ca, [], none, 0, ms, A1, c1⟩ : RmV))[10]? = some (.slice A1 ms.length c1) from rfl, HML.out] at hcd
          clear hce HO HA HT
          have ci := take_r wr.drew gi lk 0 TD.out.inf HLK.out
          obtain ⟨z, l9, e9, hz⟩ : ∃ a b c, rowF lk 0 = (a, b, c) := ⟨_, _, _, rfl⟩
          have HR1 := hidm_ (show rdF rowF (k + 1) l5 e5 = (ms ++ [z], l9, e9) from rdF_succ (by rw [HMS.out, ← hlk, ← hek]) hz)
          rw [hz] at ci
          simp only [rr] at ci
          try simp only at ci
          clear hlk hek hz
          go_region_law (first
            | (refine step_oneGg rrE Try.underlying26 infoRr (by decide) rfl (.tmp 101) rfl #[.string (strOf z.key), .string (strOf z.set)] rfl z rfl ?_; rw [hw6])
            | (refine step_appGg rfl (.tmp 99) (.tmp 102) rfl Try.underlying26 infoRr O6.out rfl 1 1 rfl RA.out rfl (by have := HML.out; have := n255; omega) (by decide) (by have := T6.out.m.lt; omega) ?_; intro A2 c2 w7 k1 k2 k3; rw [HML.out] at k1 k3 ⊢; have O7 := hidm_ k1; have T7 := hidm_ (T6.out.grow k2 (fun j hj => (O6.out.lt j hj).1)); have A7 := hidm_ (A6.out.kept k2 (own_apart A6.out O6.out (by decide))); have hc7 := T7.out.m.cell 10; have hf7 := T7.out.m.frozen 10; rw [show (rmC (⟨7, f, a, 0, 0, 0, [], [], Xa, Aa, ca, [], none, 0, ms, A1, c1⟩ : RmV))[10]? = some (.slice A1 ms.length c1) from rfl] at hc7; clear k1 k2 k3)
            | (go_simp; go_at_call 43; ((with_reducible refine ci.mono ?_); clear ci; rintro e w5 ⟨rfl, hI5, hU5⟩; have T5 := hidm_ (TD.out.read hI5 hU5); have O5 := hidm_ (OD.out.keep hU5 (fun k hk hm => by have h9 := List.mem_singleton.1 hm; have := (OD.out.lt k hk).1; have := TD.out.ord; omega)); have A5 := hidm_ (AD.out.keep hU5 (fun k hk hm => by have h9 := List.mem_singleton.1 hm; have := (AD.out.lt k hk).1; have := TD.out.ord; omega)); clear hI5 hU5; obtain ⟨w6, hw6⟩ : ∃ x, w5.alloc (.cells #[.string (strOf z.key), .string (strOf z.set)] 23) = x := ⟨_, rfl⟩; have B6 := hidm_ (show Below w5.heap.size w5 w6 by rw [← hw6]; exact (Below.refl _ _).alloc (Nat.le_refl _) _); have K6 := hidm_ (show Bk w6 w5.heap.size 23 (rrE.c z).toArray by rw [← hw6]; exact Bk.new w5 _ _); have RA := hidm_ (RdG.of_block K6.out K6.out.lt); have O6 := hidm_ (O5.out.below B6.out (Nat.le_refl _)); have A6 := hidm_ (A5.out.below B6.out (Nat.le_refl _)); have T6 := hidm_ (T5.out.low B6.out); have hc5 := T5.out.m.cell 10; rw [show (rmC (⟨7, f, a, 0, 0, 0, [], [], Xa, Aa, ca, [], none, 0, ms, A1, c1⟩ : RmV))[10]? = some (.slice A1 ms.length c1) from rfl, HML.out] at hc5; have hc6 := T6.out.m.cell 10; rw [show (rmC (⟨7, f, a, 0, 0, 0, [], [], Xa, Aa, ca, [], none, 0, ms, A1, c1⟩ : RmV))[10]? = some (.slice A1 ms.length c1) from rfl, HML.out] at hc6)))
          all_goals
            generalize hu8 : w7.setCell _ _ = w8
            have UT8 := hidm_ (show Untouched [gM] w7 w8 by rw [← hu8]; exact Untouched.set gM 10 (by simp) _)
            have T8 := hidm_ (show RrS w g gM gi (⟨7, f, a, 0, 0, 0, [], [], Xa, Aa, ca, [], none, 0, (ms ++ [z]), A2, c2⟩ : RmV) l9 e9 w8 from T7.out.put (by
              rw [← hu8]
              have k9 := T7.out.m.set_ 10 (.slice A2 (k + 1) c2)
              have e9 : (rmC (⟨7, f, a, 0, 0, 0, [], [], Xa, Aa, ca, [], none, 0, ms, A1, c1⟩ : RmV)).setIfInBounds 10 (.slice A2 (k + 1) c2) = rmC (⟨7, f, a, 0, 0, 0, [], [], Xa, Aa, ca, [], none, 0, (ms ++ [z]), A2, c2⟩ : RmV) := by
                unfold rmC
                simp [HML.out]
              rw [e9] at k9
              exact k9) UT8.out)
            have O8 := hidm_ (O7.out.keep UT8.out (fun k hk hm => by have h9 := List.mem_singleton.1 hm; have := (O7.out.lt k hk).1; omega))
            have A8 := hidm_ (A7.out.keep UT8.out (fun k hk hm => by have h9 := List.mem_singleton.1 hm; have := (A7.out.lt k hk).1; omega))
            clear hu8 UT8 hc7 hf7 hc5 hc6 hcd hw6
            go_wp2
            go_roundw
            case rel => exact ⟨k + 1, ms ++ [z], A2, c2, by go_num, by omega, hidm_ (by rw [HR1.out]), O8, A8, hidm_ (by rw [HR1.out]; exact T8.out)⟩
            case measure => simp [intOf]; omega
        · have hde : (ek == 0) = false := by simpa using he
          have HER := hidm_ (show (rdF rowF n l5 e5).2.2 = ek by rw [rdF_err rowF_off (m := k) (n := n) hk (by rw [hek]; exact he), hek])
          have ce := end_r wr gi lk ek HT.out.inf
          rw [endS_err _ _ he] at ce
          have HEB := hidm_ (show endS (rdMg l).2.1 (rdMg l).2.2 ≠ 0 by rw [HD.out]; exact eb7 HXA.out HCT.out HER.out he)
          obtain ⟨E9, hE⟩ : ∃ x, ek = x := ⟨_, rfl⟩
          rw [hE] at ce he HT hde hce
          have hE9 := he
          clear hlk hek he hE HER
          have hd : (E9 != 0) = true := by simpa using hE9
          have hd2 : (E9 == 0) = false := by simpa using hE9
          have hd3 : decide (E9 = 0) = false := decide_eq_false hE9
          have hb0 := hidm_ built_rm0
          clear hE9
          go_wp2_with (first
            | (go_at_call 46; ((with_reducible refine ce.mono ?_); clear ce; rintro e x9 ⟨rfl, rfl⟩))
            | (refine wpList_built rfl 28 #[] rfl (rmC rmZ) hb0.out ?_)
            | (refine wpList_put_row rfl 28 (.tmp 2) (.tmp 108) rfl g (rmC rmZ) rfl rfl 28 (rmC rmZ) HT.out.r0 (iRm _) rfl (rmC_one _) ?_; intro y9 k9 g9 s9; have Y9 := hidm_ k9; have UG := hidm_ (unt_put g9); clear k9 g9 s9))
          exact bodyPost_ret (results_cell_slotM Try.results12 _ _ g rfl rfl (run_loadVar_row _ _ _ _ _ (0, 0) _ Y9.out Try.underlying28 rfl (iRm _))) rfl ⟨rmZ, false, rfl, by rw [HG.out]; exact HT.out.bel.trans (UG.out.below (fun k hk => by rw [List.mem_singleton.1 hk]; exact Nat.le_refl _) (Nat.le_of_lt HT.out.r0.lt)), rmZ_ok _ _, Nat.zero_le _, Nat.zero_le _, Nat.zero_le _, Nat.zero_le _, fun h => absurd h HEB.out, fun _ => ⟨rfl, rfl⟩⟩
      · have tl : ¬ (k : Int) < (n : Int) := by omega
        obtain rfl : k = n := by omega
        have HX := hidm_ (show rdF rowF k l5 e5 = (ms, lk, ek) by rw [HMS.out, ← hlk, ← hek])
        have hkl := HML.out.symm
        have HO9 := hidm_ (show OwnG rrE 23 wr (gM + 1) (.slice A1 ms.length c1) ms by rw [HML.out]; exact HO.out)
        clear hlk hek HMS HO
        have ce := end_r wr gi lk ek HT.out.inf
        have HDD := hidm_ (show rdMg l = (⟨7, f, a, 0, 0, 0, ⟨zbytes 32, []⟩, Xc, [], ms⟩, lk, ek) by rw [HD.out]; unfold rdBody; simp [mg0, HXA.out, cntF_of HCT.out (show rdF rowF (k : Int).toNat l5 e5 = _ from HX.out)])
        by_cases he : endS lk ek = 0
        case pos =>
          have hd : (endS lk ek != 0) = false := by rw [he]; rfl
          rw [he] at ce hd
          have HOKM := hidm_ (rdMg_ok HDD.out he)
          have HE := hidm_ he
          clear he
          go_wp2_with (first
            | (go_at_call 46; ((with_reducible refine ce.mono ?_); clear ce; rintro e x9 ⟨rfl, rfl⟩))
            | (refine wpList_load_row rfl 28 (.tmp 5) rfl gM rfl 28 (rmC (⟨7, f, a, 0, 0, 0, [], [], Xa, Aa, ca, [], none, 0, ms, A1, c1⟩ : RmV)) (0, 0) _ HT.out.m Try.underlying28 rfl (iRm _) ?_)
            | (refine wpList_put_row rfl 28 (.tmp 2) (.tmp 109) rfl g (rmC (⟨7, f, a, 0, 0, 0, [], [], Xa, Aa, ca, [], none, 0, ms, A1, c1⟩ : RmV)) rfl rfl 28 (rmC rmZ) HT.out.r0 (iRm _) rfl (rmC_one _) ?_; intro y9 k9 g9 s9; have Y9 := hidm_ k9; have UG := hidm_ (unt_put g9); clear k9 g9 s9))
          have HK32 := HOKM.out.2.2.1
          exact bodyPost_ret (results_cell_slotM Try.results12 _ _ g rfl rfl (run_loadVar_row _ _ _ _ _ (0, 0) _ Y9.out Try.underlying28 rfl (iRm _))) rfl ⟨(⟨7, f, a, 0, 0, 0, [], [], Xa, Aa, ca, [], none, 0, ms, A1, c1⟩ : RmV), true, rfl, by rw [HG.out]; exact HT.out.bel.trans (UG.out.below (fun k hk => by rw [List.mem_singleton.1 hk]; exact Nat.le_refl _) (Nat.le_of_lt HT.out.r0.lt)), ⟨(HA.out.keep UG.out (fun k hk hm => by have h9 := List.mem_singleton.1 hm; have := (HA.out.lt k hk).1; have := HT.out.ord; omega)).rd.1, RdG.nil, (HO9.out.keep UG.out (fun k hk hm => by have h9 := List.mem_singleton.1 hm; have := (HO9.out.lt k hk).1; have := HT.out.ord; omega)).rd.1⟩, NA.out, Nat.zero_le _, (by show ms.length ≤ 255; rw [HML.out]; exact n255), Nat.zero_le _, fun _ => ⟨rfl, by rw [HDD.out]; show nrm (⟨7, f, a, 0, 0, 0, ⟨[], []⟩, Xa, [], ms⟩ : MgV) = _; rw [HXX.out (e5_zero HCT.out HX.out (endS_ok HE.out).1)]; rfl⟩, fun h => absurd (by rw [HDD.out]; exact HE.out) h⟩
        case neg =>
          have HEB := hidm_ (show endS (rdMg l).2.1 (rdMg l).2.2 ≠ 0 by rw [HDD.out]; exact he)
          obtain ⟨E9, hE⟩ : ∃ E, endS lk ek = E := ⟨_, rfl⟩
          rw [hE] at ce he
          have hE9 := he
          clear he hE
          have hd : (E9 != 0) = true := by simpa using hE9
          have hd2 : (E9 == 0) = false := by simpa using hE9
          have hd3 : decide (E9 = 0) = false := decide_eq_false hE9
          have hb0 := hidm_ built_rm0
          clear hE9
          go_wp2_with (first
            | (go_at_call 46; ((with_reducible refine ce.mono ?_); clear ce; rintro e x9 ⟨rfl, rfl⟩))
            | (refine wpList_built rfl 28 #[] rfl (rmC rmZ) hb0.out ?_)
            | (refine wpList_put_row rfl 28 (.tmp 2) (.tmp 108) rfl g (rmC rmZ) rfl rfl 28 (rmC rmZ) HT.out.r0 (iRm _) rfl (rmC_one _) ?_; intro y9 k9 g9 s9; have Y9 := hidm_ k9; have UG := hidm_ (unt_put g9); clear k9 g9 s9))
          exact bodyPost_ret (results_cell_slotM Try.results12 _ _ g rfl rfl (run_loadVar_row _ _ _ _ _ (0, 0) _ Y9.out Try.underlying28 rfl (iRm _))) rfl ⟨rmZ, false, rfl, by rw [HG.out]; exact HT.out.bel.trans (UG.out.below (fun k hk => by rw [List.mem_singleton.1 hk]; exact Nat.le_refl _) (Nat.le_of_lt HT.out.r0.lt)), rmZ_ok _ _, Nat.zero_le _, Nat.zero_le _, Nat.zero_le _, Nat.zero_le _, fun h => absurd h HEB.out, fun _ => ⟨rfl, rfl⟩⟩
  have d1 : decide (k = 1) = false := decide_eq_false k1
  have d2 : decide (k = 2) = false := decide_eq_false k2
  have d3 : decide (k = 3) = false := decide_eq_false k3
  have d4 : decide (k = 4) = false := decide_eq_false k4
  have d5 : decide (k = 5) = false := decide_eq_false k5
  have d6 : decide (k = 6) = false := decide_eq_false k6
  have d7 : decide (k = 7) = false := decide_eq_false k7
  have q1 : (k == 1) = false := by simpa using k1
  have q2 : (k == 2) = false := by simpa using k2
  have q3 : (k == 3) = false := by simpa using k3
  have q4 : (k == 4) = false := by simpa using k4
  have q5 : (k == 5) = false := by simpa using k5
  have q6 : (k == 6) = false := by simpa using k6
  have q7 : (k == 7) = false := by simpa using k7
  have HDD := hidm_ (show (rdMg l).2 = (l3, 1) by rw [HD.out]; unfold rdBody; simp [k1, k2, k3, k4, k5, k6, k7])
  have hb0 := hidm_ built_rm0
  clear k1 k2 k3 k4 k5 k6 k7
  go_wp2_with (first
    | (refine wpList_built rfl 28 #[] rfl (rmC rmZ) hb0.out ?_)
    | (refine wpList_put_row rfl 28 (.tmp 2) (.tmp 24) rfl g (rmC rmZ) rfl rfl 28 (rmC rmZ) T3.out.r0 (iRm _) rfl (rmC_one _) ?_; intro y9 k9 g9 s9; have Y9 := hidm_ k9; have UG := hidm_ (unt_put g9); clear k9 g9 s9))
  exact bodyPost_ret (results_cell_slotM Try.results12 _ _ g rfl rfl (run_loadVar_row _ _ _ _ _ (0, 0) _ Y9.out Try.underlying28 rfl (iRm _))) rfl ⟨rmZ, false, rfl, by rw [HG.out]; exact T3.out.bel.trans (UG.out.below (fun k hk => by rw [List.mem_singleton.1 hk]; exact Nat.le_refl _) (Nat.le_of_lt T3.out.r0.lt)), rmZ_ok _ _, Nat.zero_le _, Nat.zero_le _, Nat.zero_le _, Nat.zero_le _, fun h => by rw [HDD.out] at h; exact absurd h (by unfold endS; simp), fun _ => ⟨rfl, rfl⟩⟩
end Go.Proofs.Ytnlipmcnpekifaa
