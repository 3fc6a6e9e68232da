/-
  log, by value: with one byte of a record, or of its check, changed, those ahead of it are told alone.
-/
import Derived.Test.YtdlciehboimciaaLgy
import Derived.Test.YtdlciehboimciaaLA
namespace Go.Proofs.Ytdlciehboimciaa
set_option maxRecDepth 100000
open Go.RowKit
set_option linter.unusedVariables false
set_option linter.unusedSimpArgs false

theorem bw_inj {a b : UInt8} (h : bw a = bw b) : a = b := by
  have h1 := congrArg BitVec.toNat h
  unfold bw at h1
  simp only [BitVec.toNat_ofNat] at h1
  have := a.toNat_lt
  have := b.toNat_lt
  exact UInt8.toNat_inj.1 (by omega)
theorem crc_one (p q : List UInt8) (b b' : UInt8) (hne : b ≠ b') : crcV (p ++ b :: q) ≠ crcV (p ++ b' :: q) := fun h => by
  unfold crcV at h
  have h2 : crun (0xffffffff#32) (p ++ b :: q) = crun (0xffffffff#32) (p ++ b' :: q) := by
    have := congrArg (fun x => ~~~ x) h
    simpa using this
  rw [crun_append, crun_append] at h2
  have h3 : cbyte (crun (0xffffffff#32) p) b = cbyte (crun (0xffffffff#32) p) b' := crun_inj (l := q) h2
  unfold cbyte at h3
  have h4 := csteps_inj 8 h3
  have h5 : bw b = bw b' := by
    have := congrArg (fun x => crun (0xffffffff#32) p ^^^ x) h4
    simpa [← BitVec.xor_assoc] using this
  exact hne (bw_inj h5)
theorem lowB4_inj {x y : Nat} (hx : x < 4294967296) (hy : y < 4294967296) (h : lowB 4 x = lowB 4 y) : x = y := by
  have e : ∀ z, z < 4294967296 → leN (lowB 4 z) = z := fun z hz => by
    rw [leN_lowB]
    exact Nat.mod_eq_of_lt hz
  rw [← e x hx, ← e y hy, h]
/-- Whatever stands where a record does. -/
theorem rc_any (N : Nat) (r c m : List UInt8) (hr : r.length ≤ N) (h32 : r.length < 4294967296) (hc : c.length = 4) : rcA N (highB 4 r.length ++ (r ++ (c ++ m))) 0 = (r, c ++ m, 0) ∧ rcB N (highB 4 r.length ++ (r ++ (c ++ m))) 0 = (c, m, 0) := by
  have e1 : numS 4 (N : Int) (highB 4 r.length ++ (r ++ (c ++ m))) 0 = ((r.length : Int), r ++ (c ++ m), 0) :=
    numS_at 4 _ (highB 4 r.length) _ r.length (highB_len _ _) (by rw [beN_highB]; exact Nat.mod_eq_of_lt (by omega)) (by omega)
  have e2 : rcA N (highB 4 r.length ++ (r ++ (c ++ m))) 0 = (r, c ++ m, 0) := by
    unfold rcA
    rw [e1]
    rcases Nat.eq_zero_or_pos r.length with h | h
    · have hr0 : r = [] := List.eq_nil_of_length_eq_zero h
      subst hr0
      exact fixS_none _ _
    · exact fixS_at r _ h
  refine ⟨e2, ?_⟩
  unfold rcB
  rw [e2]
  have h := fixS_at c m (by omega)
  rw [hc] at h
  exact h
theorem recsL_bad (k N : Nat) (r c m : List UInt8) (hr : r.length ≤ N) (h32 : r.length < 4294967296) (hc : c.length = 4) (hne : c ≠ crcL r) : recsL (k + 1) N (highB 4 r.length ++ (r ++ (c ++ m))) 0 = [] := by
  obtain ⟨e1, e2⟩ := rc_any N r c m hr h32 hc
  show (if (rcB N (highB 4 r.length ++ (r ++ (c ++ m))) 0).1 = crcL (rcA N (highB 4 r.length ++ (r ++ (c ++ m))) 0).1 then _ else []) = _
  rw [e1, e2, if_neg hne]
theorem recsL_app : ∀ (P : List (List UInt8)) (k N : Nat) (m : List UInt8), (∀ r ∈ P, r.length ≤ N ∧ r.length < 4294967296) → recsL (P.length + k) N (allB P ++ m) 0 = P ++ recsL k N m 0
  | [], k, N, m, _ => by simp [allB]
  | r :: P, k, N, m, h => by
    obtain ⟨h1, h2⟩ := h r (List.mem_cons_self ..)
    rw [allB_cons, List.append_assoc, List.length_cons, show P.length + 1 + k = (P.length + k) + 1 by omega, recsL_rec _ N r _ h1 h2, recsL_app P k N m fun x hx => h x (List.mem_cons_of_mem _ hx)]
    rfl
/-- The bytes of a record, one of them changed behind its count. -/
theorem rec_set (r : List UInt8) (i : Nat) (h4 : 4 ≤ i) (hi : i < r.length + 8) (b : UInt8) (hb : b ≠ (recB r).getD i 0) : ∃ r' c, (recB r).set i b = highB 4 r'.length ++ (r' ++ c) ∧ r'.length = r.length ∧ c.length = 4 ∧ c ≠ crcL r' := by
  have e0 : recB r = highB 4 r.length ++ (r ++ crcL r) := by rw [recB_eq, List.append_assoc]
  have hl4 := highB_len 4 r.length
  have hc4 := crcL_len r
  obtain ⟨k, rfl⟩ : ∃ k, i = 4 + k := ⟨i - 4, by omega⟩
  have hg : (recB r).getD (4 + k) 0 = (r ++ crcL r).getD k 0 := by
    rw [e0]
    simp only [List.getD]
    rw [List.getElem?_append_right (by omega), hl4, Nat.add_sub_cancel_left]
  rw [hg] at hb
  have hs : (recB r).set (4 + k) b = highB 4 r.length ++ (r ++ crcL r).set k b := by
    rw [e0, List.set_append_right _ _ (by omega), hl4, Nat.add_sub_cancel_left]
  rcases Nat.lt_or_ge k r.length with hk | hk
  · refine ⟨r.set k b, crcL r, ?_, by simp, hc4, fun h => ?_⟩
    · rw [hs, List.set_append_left _ _ hk]
      simp
    · have e1 : r = r.take k ++ r.getD k 0 :: r.drop (k + 1) := by
        have : r.getD k 0 = r[k] := by simp [List.getD, hk]
        rw [this, ← List.drop_eq_getElem_cons hk, List.take_append_drop]
      have e2 : r.set k b = r.take k ++ b :: r.drop (k + 1) := by rw [List.set_eq_take_append_cons_drop, if_pos hk]
      have hb2 : b ≠ r.getD k 0 := by
        intro e
        apply hb
        rw [e]
        simp only [List.getD, List.getElem?_append_left hk]
      unfold crcL at h
      rw [List.length_set] at h
      have h2 := lowB4_inj (crcV (highB 4 r.length ++ r)).isLt (crcV (highB 4 r.length ++ r.set k b)).isLt h
      have h3 : crcV (highB 4 r.length ++ r) = crcV (highB 4 r.length ++ r.set k b) := BitVec.eq_of_toNat_eq h2
      rw [e2] at h3
      have h4 : crcV ((highB 4 r.length ++ r.take k) ++ r.getD k 0 :: r.drop (k + 1)) = crcV ((highB 4 r.length ++ r.take k) ++ b :: r.drop (k + 1)) := by
        rw [List.append_assoc, List.append_assoc, ← e1]
        exact h3
      exact crc_one _ _ _ _ (fun e => hb2 e.symm) h4
  · refine ⟨r, (crcL r).set (k - r.length) b, ?_, rfl, by simp [hc4], fun h => ?_⟩
    · rw [hs, List.set_append_right _ _ hk]
    · have hg2 : (crcL r).getD (k - r.length) 0 = b := by
        rw [← h]
        have : k - r.length < (crcL r).length := by omega
        simp only [List.getD, List.getElem?_set]
        simp [hc4, show k - r.length < 4 by omega]
      apply hb
      rw [← hg2]
      simp only [List.getD, List.getElem?_append_right hk]
/-- Records, a byte of the k-th one's changed. -/
theorem recs_cut (R : List (List UInt8)) (k i : Nat) (hk : k < R.length) (h4 : 4 ≤ i) (hi : i < (R.getD k []).length + 8) (b : UInt8) (hb : b ≠ (allB R).getD ((allB (R.take k)).length + i) 0) (hs : (allB R).length < 4294967296) : recsV ((allB R).set ((allB (R.take k)).length + i) b) = R.take k := by
  have eR : R = R.take k ++ R.getD k [] :: R.drop (k + 1) := by
    have : R.getD k [] = R[k] := by simp [List.getD, hk]
    rw [this, ← List.drop_eq_getElem_cons hk, List.take_append_drop]
  obtain ⟨r, hr⟩ : ∃ r, R.getD k [] = r := ⟨_, rfl⟩
  rw [hr] at eR hi
  have eB : allB R = allB (R.take k) ++ (recB r ++ allB (R.drop (k + 1))) := by
    conv => lhs; rw [eR]
    rw [allB_append, allB_cons]
  have hrl := recB_len r
  have hlen := congrArg List.length eB
  simp only [List.length_append] at hlen
  have hb2 : b ≠ (recB r).getD i 0 := by
    intro e
    apply hb
    rw [e, eB]
    simp only [List.getD]
    rw [List.getElem?_append_right (by omega), Nat.add_sub_cancel_left, List.getElem?_append_left (by omega)]
  obtain ⟨r', c, e1, e2, e3, e4⟩ := rec_set r i h4 hi b hb2
  have hset : (allB R).set ((allB (R.take k)).length + i) b = allB (R.take k) ++ (highB 4 r'.length ++ (r' ++ (c ++ allB (R.drop (k + 1))))) := by
    rw [eB, List.set_append_right _ _ (by omega), Nat.add_sub_cancel_left, List.set_append_left _ _ (by omega), e1]
    simp
  have hP := allB_len (R.take k)
  unfold recsV
  rw [List.length_set]
  obtain ⟨d, hd⟩ : ∃ d, (allB R).length + 1 = (R.take k).length + (d + 1) := ⟨(allB R).length - (R.take k).length, by omega⟩
  rw [hd, hset, recsL_app _ _ _ _ (fun x hx => by have := hP.2 x hx; exact ⟨by omega, by omega⟩), recsL_bad d _ r' c _ (by omega) (by omega) e3 e4, List.append_nil]
/-- A byte of a disk. -/
theorem flat_setb {F : List (List UInt8)} (hF : ∀ D ∈ F, D.length = 64) (s j : Nat) (hs : s < F.length) (hj : j < 64) (b : UInt8) : (F.set s ((F.getD s []).set j b)).flatten = F.flatten.set (s * 64 + j) b := by
  have hD := getD_mem64 hF s hs
  have hfl := flat_len hF
  rw [flat_set hF s hs]
  have e1 : F.flatten = F.flatten.take (s * 64) ++ (F.getD s [] ++ F.flatten.drop ((s + 1) * 64)) := by
    conv => lhs; rw [← List.take_append_drop (s * 64) F.flatten]
    congr 1
    rw [← (flat_split hF s (by omega)).2, drop_cons_getD s hs, List.flatten_cons, (flat_split hF (s + 1) (by omega)).2]
  have hT : (F.flatten.take (s * 64)).length = s * 64 := by rw [List.length_take]; omega
  conv => rhs; rw [e1]
  rw [List.set_append_right _ _ (by omega), hT, Nat.add_sub_cancel_left, List.set_append_left _ _ (by omega), List.append_assoc]
/-- A disk with a byte of the k-th record's changed: those ahead of it are told. -/
theorem holds_cut {n t a : Nat} {R F : List (List UInt8)} (h : HoldsL n t a R F) (h4 : 4 ≤ n) (h9 : n ≤ 8192) (ht : t ≤ 9223372036854775807) (k i : Nat) (hk : k < R.length) (hi4 : 4 ≤ i) (hi : i < (R.getD k []).length + 8) (s j : Nat) (hj : j < 64) (hp : s * 64 + j = firstS n a * 64 + (allB (R.take k)).length + i) (b : UInt8) (hb : b ≠ (F.getD s []).getD j 0) (p : DkX) (hpx : appl p.F p.R = F.set s ((F.getD s []).set j b)) :
    headX n p = (t, a, (allB R).length) ∧ bytesX n p = (allB R).set ((allB (R.take k)).length + i) b ∧ recsV (bytesX n p) = R.take k ∧ s < n := by
  have hrb : roomN n ≤ 524288 := by unfold roomN secsA; omega
  have hle := allB_le R k
  have hsec : firstS n a + secsA n ≤ n := by
    have : a * secsA n ≤ 1 * secsA n := Nat.mul_le_mul_right _ h.ha
    unfold firstS
    unfold secsA at *
    omega
  have eR : allB R = allB (R.take k) ++ (recB (R.getD k []) ++ allB (R.drop (k + 1))) := by
    have e : R = R.take k ++ R.getD k [] :: R.drop (k + 1) := by
      have : R.getD k [] = R[k] := by simp [List.getD, hk]
      rw [this, ← List.drop_eq_getElem_cons hk, List.take_append_drop]
    conv => lhs; rw [e]
    rw [allB_append, allB_cons]
  have hin : (allB (R.take k)).length + i < (allB R).length := by
    have h1 := congrArg List.length eR
    simp only [List.length_append, recB_len] at h1
    omega
  have hc := h.hc
  have hs : s < n := by unfold roomN at hc; omega
  have hs2 : 2 ≤ s := by
    have : 2 ≤ firstS n a := by unfold firstS; omega
    omega
  have hfl := flat_len h.s64
  have hlen := h.len
  have hF' : (appl p.F p.R).flatten = F.flatten.set (s * 64 + j) b := by rw [hpx]; exact flat_setb h.s64 s j (by omega) hj b
  have hx : headX n p = (t, a, (allB R).length) := by
    unfold headX
    rw [hpx, ← h.last h9 ht]
    show lastK _ _ (0 + 1 + 1) = lastK _ _ (0 + 1 + 1)
    have g0 : (F.set s ((F.getD s []).set j b)).getD 0 [] = F.getD 0 [] := by rw [getD_setL, if_neg (by omega)]
    have g1 : (F.set s ((F.getD s []).set j b)).getD (0 + 1) [] = F.getD (0 + 1) [] := by rw [getD_setL, if_neg (by omega)]
    rw [lastK_succ, lastK_succ, g0, g1, lastK_succ, lastK_succ]
    rfl
  have hbx : bytesX n p = (allB R).set ((allB (R.take k)).length + i) b := by
    unfold bytesX
    rw [hx]
    show ((appl p.F p.R).flatten.drop (firstS n a * 64)).take (allB R).length = _
    rw [hF', List.drop_set, if_neg (by omega), List.take_set, h.by_]
    congr 1
    omega
  have hgb : (F.getD s []).getD j 0 = (allB R).getD ((allB (R.take k)).length + i) 0 := by
    rw [← flat_at h.s64 s j (by omega) hj, hp]
    have e := h.by_
    have : (allB R).getD ((allB (R.take k)).length + i) 0 = ((F.flatten.drop (firstS n a * 64)).take (allB R).length).getD ((allB (R.take k)).length + i) 0 := by rw [e]
    rw [this]
    simp only [List.getD, List.getElem?_take, if_pos hin, List.getElem?_drop, Nat.add_assoc]
  refine ⟨hx, hbx, ?_, hs⟩
  rw [hbx]
  exact recs_cut R k i hk hi4 hi b (by rw [← hgb]; exact hb) (by omega)
end Go.Proofs.Ytdlciehboimciaa
