/-
  log, by value: what a disk holds; that a crash leaves the elder records or the newer ones.
-/
import Derived.Test.YtdlciehboimciaaLX
import Derived.Test.YtdlciehboimciaaLJ
namespace Go.Proofs.Ytdlciehboimciaa
set_option maxRecDepth 100000
open Go.RowKit
set_option linter.unusedVariables false
set_option linter.unusedSimpArgs false

theorem getD_setL {α : Type} (l : List α) (i j : Nat) (v d : α) : (l.set i v).getD j d = if i = j ∧ i < l.length then v else l.getD j d := by
  simp only [List.getD, List.getElem?_set]
  by_cases h : i = j
  · subst h
    by_cases h2 : i < l.length
    · simp [h2]
    · simp [h2, List.getElem?_eq_none (Nat.le_of_not_lt h2)]
  · simp [h]
/-! Bytes of an area, by its sectors. -/
theorem drop_cons_getD {F : List (List UInt8)} (i : Nat) (h : i < F.length) : F.drop i = F.getD i [] :: F.drop (i + 1) := by
  rw [List.drop_eq_getElem_cons h]
  simp [List.getD, h]
theorem area_take {F : List (List UInt8)} (hF : ∀ D ∈ F, D.length = 64) (fs fq r : Nat) (h : fs + fq < F.length) (hr : r ≤ 64) : (F.flatten.drop (fs * 64)).take (fq * 64 + r) = ((F.drop fs).take fq).flatten ++ (F.getD (fs + fq) []).take r := by
  have hG : ∀ D ∈ F.drop fs, D.length = 64 := fun D hD => hF D (List.mem_of_mem_drop hD)
  have hl : (F.drop fs).length = F.length - fs := by simp
  rw [← (flat_split hF fs (by omega)).2, List.take_add, ← (flat_split hG fq (by omega)).1, ← (flat_split hG fq (by omega)).2, List.drop_drop, drop_cons_getD (fs + fq) h, List.flatten_cons, List.take_append_of_le_length]
  rw [getD_mem64 hF _ h]
  exact hr
theorem area_all {F : List (List UInt8)} (hF : ∀ D ∈ F, D.length = 64) (fs k c : Nat) (h : fs + k ≤ F.length) (hc : c ≤ k * 64) : (F.flatten.drop (fs * 64)).take c = (((F.drop fs).take k).flatten).take c := by
  have hG : ∀ D ∈ F.drop fs, D.length = 64 := fun D hD => hF D (List.mem_of_mem_drop hD)
  have hl : (F.drop fs).length = F.length - fs := by simp
  rw [(flat_split hG k (by omega)).1, (flat_split hF fs (by omega)).2, List.take_take, Nat.min_eq_left hc]
theorem part_same {F F' : List (List UInt8)} (hl : F'.length = F.length) (fs k : Nat) (h : ∀ i, fs ≤ i → i < fs + k → F'.getD i [] = F.getD i []) : (F'.drop fs).take k = (F.drop fs).take k := by
  refine List.ext_getElem? fun i => ?_
  simp only [List.getElem?_take, List.getElem?_drop]
  split
  · rename_i hi
    have := h (fs + i) (by omega) (by omega)
    by_cases hlt : fs + i < F.length
    · simp only [List.getD, List.getElem?_eq_getElem hlt, List.getElem?_eq_getElem (show fs + i < F'.length by omega), Option.getD_some] at this ⊢
      rw [this]
    · rw [List.getElem?_eq_none (by omega), List.getElem?_eq_none (by omega)]
  · rfl
/-! Writes that leave what stands ahead of them. -/
def SafeW (a1 hi r : Nat) (F : List (List UInt8)) (x : WrV) : Prop := a1 ≤ x.1 ∧ x.1 < hi ∧ x.2.length = 64 ∧ (x.1 = a1 → x.2.take r = (F.getD a1 []).take r)
structure SameO (a1 hi r : Nat) (F F' : List (List UInt8)) : Prop where
  len : F'.length = F.length
  s64 : ∀ D ∈ F', D.length = 64
  out : ∀ i, i < a1 ∨ hi ≤ i → F'.getD i [] = F.getD i []
  at_ : (F'.getD a1 []).take r = (F.getD a1 []).take r
section
variable {a1 hi r : Nat} {F : List (List UInt8)}
theorem SameO.refl (hF : ∀ D ∈ F, D.length = 64) : SameO a1 hi r F F := ⟨rfl, hF, fun _ _ => rfl, rfl⟩
theorem safe_appl (hh : hi ≤ F.length) : ∀ (ws : List WrV) (G : List (List UInt8)), SameO a1 hi r F G → (∀ x ∈ ws, SafeW a1 hi r F x) → SameO a1 hi r F (appl G ws)
  | [], G, h, _ => h
  | x :: ws, G, h, hw => by
    obtain ⟨h1, h2, h3, h4⟩ := hw x (List.mem_cons_self ..)
    have hx : x.1 < G.length := by rw [h.len]; omega
    refine safe_appl hh ws (G.set x.1 x.2) ⟨by simp [h.len], fun D hD => ?_, fun i hi2 => ?_, ?_⟩ fun y hy => hw y (List.mem_cons_of_mem _ hy)
    · rcases List.mem_or_eq_of_mem_set hD with h5 | h5
      · exact h.s64 D h5
      · rw [h5]; exact h3
    · rw [getD_setL, if_neg (fun e => by omega)]
      exact h.out i hi2
    · rw [getD_setL]
      split
      · rename_i e
        exact h4 e.1
      · exact h.at_
end
theorem wrC_safe {F : List (List UInt8)} (hF : ∀ D ∈ F, D.length = 64) (a1 hi r : Nat) (l : List UInt8) (ha : a1 < F.length) (hr : r ≤ 64) (j : Nat) (hj : a1 + j ≤ hi) : ∀ x ∈ wrC a1 ((F.getD a1 []).take r ++ l) j, SafeW a1 hi r F x := fun x hx => by
  obtain ⟨i, hi, rfl⟩ := List.mem_map.1 hx
  have hij := List.mem_range.1 hi
  have hX : ((F.getD a1 []).take r).length = r := by rw [List.length_take, getD_mem64 hF a1 ha]; omega
  refine ⟨Nat.le_add_right _ _, by show a1 + i < _; omega, padTo_len _ _ (by rw [pieceAt_len]; omega), fun e => ?_⟩
  obtain rfl : i = 0 := by simp only at e; omega
  unfold padTo pieceAt
  generalize (F.getD a1 []).take r = X at hX ⊢
  rw [Nat.zero_mul, List.drop_zero, List.take_append_of_le_length (by rw [List.length_take, List.length_append]; omega), List.take_take, Nat.min_eq_left hr, List.take_append_of_le_length (by omega), List.take_of_length_le (by omega)]
/-! What a disk holds. -/
structure HoldsL (n t a : Nat) (R : List (List UInt8)) (F : List (List UInt8)) : Prop where
  len : F.length = n
  s64 : ∀ D ∈ F, D.length = 64
  t1 : 1 ≤ t
  ha : a ≤ 1
  hc : (allB R).length ≤ roomN n
  hd : F.getD (t % 2) [] = headB t a (allB R).length
  ot : hdIs (roomN n) ((t + 1) % 2) 0 (F.getD ((t + 1) % 2) []) = true → hdT (F.getD ((t + 1) % 2) []) < t
  by_ : (F.flatten.drop (firstS n a * 64)).take (allB R).length = allB R
theorem hdIs_more {room i x : Nat} {D : List UInt8} (h : hdIs room i x D = true) : hdIs room i 0 D = true ∧ x < hdT D := by
  unfold hdIs at h ⊢
  simp only [Bool.and_eq_true, decide_eq_true_eq] at h ⊢
  exact ⟨⟨h.1, h.2.1, by omega⟩, h.2.2⟩
section
variable {n t a : Nat} {R R' F F' : List (List UInt8)}
theorem HoldsL.last (h : HoldsL n t a R F) (h9 : n ≤ 8192) (ht : t ≤ 9223372036854775807) : lastK (roomN n) F 2 = (t, a, (allB R).length) := by
  have hr : roomN n ≤ 1000000 := by unfold roomN secsA; omega
  obtain ⟨e1, e2, e3⟩ := hd_head t a (allB R).length (roomN n) ht h.ha h.hc hr
  have hI := fun i x => hdIs_head (roomN n) i x t a (allB R).length ht h.ha h.hc hr
  have hd := h.hd
  have ot := h.ot
  have t1 := h.t1
  have hz : lastK (roomN n) F 0 = (0, 0, 0) := rfl
  show lastK (roomN n) F (1 + 1) = _
  rcases Nat.mod_two_eq_zero_or_one t with hm | hm
  · have hm1 : (t + 1) % 2 = 1 := by omega
    rw [hm] at hd
    rw [hm1] at ot
    have s0 : lastK (roomN n) F (0 + 1) = (t, a, (allB R).length) := by
      rw [lastK_succ, hz, hd, hI, if_pos (by simp [hm]; omega), e1, e2, e3]
    rw [lastK_succ, show lastK (roomN n) F 1 = _ from s0, if_neg]
    intro hh
    obtain ⟨h1, h2⟩ := hdIs_more hh
    have := ot h1
    dsimp only at h2
    omega
  · have hm1 : (t + 1) % 2 = 0 := by omega
    rw [hm] at hd
    rw [hm1] at ot
    have s0 : (lastK (roomN n) F (0 + 1)).1 < t := by
      rw [lastK_succ, hz]
      split
      · rename_i hh
        exact ot hh
      · show 0 < t
        omega
    rw [lastK_succ, hd, hI, if_pos (by simp [hm]; exact s0), e1, e2, e3]
/-- A disk that is as it was but behind the bytes. -/
theorem HoldsL.same {a1 hi r : Nat} (h : HoldsL n t a R F) (h4 : 4 ≤ n) (hs : SameO a1 hi r F F') (h2 : 2 ≤ a1) (hk : (∀ i, firstS n a ≤ i → i < firstS n a + secsA n → i < a1 ∨ hi ≤ i) ∨ (a1 = firstS n a + (allB R).length / 64 ∧ r = (allB R).length % 64 ∧ (allB R).length < roomN n)) : HoldsL n t a R F' := by
  have hsec : firstS n a + secsA n ≤ n := by
    have := h.ha
    have : a * secsA n ≤ 1 * secsA n := Nat.mul_le_mul_right _ h.ha
    unfold firstS
    unfold secsA at *
    omega
  refine ⟨hs.len.trans h.len, hs.s64, h.t1, h.ha, h.hc, ?_, ?_, ?_⟩
  · rw [hs.out _ (.inl (by omega))]; exact h.hd
  · rw [hs.out _ (.inl (by omega))]; exact h.ot
  · rcases hk with hk | ⟨rfl, rfl, hlt⟩
    · have hc := h.hc
      unfold roomN at hc
      rw [area_all hs.s64 _ (secsA n) _ (by rw [hs.len, h.len]; exact hsec) hc, part_same hs.len _ _ (fun i h1 h2 => hs.out i (hk i h1 h2)), ← area_all h.s64 _ (secsA n) _ (by rw [h.len]; exact hsec) hc]
      exact h.by_
    · have e : (allB R).length = (allB R).length / 64 * 64 + (allB R).length % 64 := by omega
      have hin : firstS n a + (allB R).length / 64 < n := by unfold roomN at hlt; omega
      have hb := h.by_
      rw [e, area_take h.s64 _ _ _ (by rw [h.len]; exact hin) (by omega)] at hb
      rw [e, area_take hs.s64 _ _ _ (by rw [hs.len, h.len]; exact hin) (by omega), hs.at_, part_same hs.len _ _ (fun i h1 h2 => hs.out i (.inl (by omega)))]
      exact hb
/-- The next head. -/
theorem HoldsL.next (h : HoldsL n t a R F) (h4 : 4 ≤ n) (h9 : n ≤ 8192) (a' : Nat) (ha' : a' ≤ 1) (ht : t + 1 ≤ 9223372036854775807) (hs : HoldsL n t a R F') (hc : (allB R').length ≤ roomN n) (hb : (F'.flatten.drop (firstS n a' * 64)).take (allB R').length = allB R') : HoldsL n (t + 1) a' R' (F'.set ((t + 1) % 2) (headB (t + 1) a' (allB R').length)) := by
  have hr : roomN n ≤ 1000000 := by unfold roomN secsA; omega
  have hlen := hs.len
  have e64 : ∀ D ∈ F'.set ((t + 1) % 2) (headB (t + 1) a' (allB R').length), D.length = 64 := fun D hD => by
    rcases List.mem_or_eq_of_mem_set hD with h5 | h5
    · exact hs.s64 D h5
    · rw [h5]; exact headB_len _ _ _
  refine ⟨by simp [hlen], e64, by omega, ha', hc, ?_, ?_, ?_⟩
  · rw [getD_setL, if_pos ⟨rfl, by omega⟩]
  · rw [getD_setL, if_neg (by omega), show (t + 1 + 1) % 2 = t % 2 by omega, hs.hd]
    intro _
    rw [(hd_head t a (allB R).length (roomN n) (by omega) hs.ha hs.hc hr).1]
    omega
  · have hf2 : 2 ≤ firstS n a' := by unfold firstS; omega
    have hin : firstS n a' ≤ F'.length := by
      have : a' * secsA n ≤ 1 * secsA n := Nat.mul_le_mul_right _ ha'
      rw [hlen]
      unfold firstS
      unfold secsA at *
      omega
    have e : (F'.set ((t + 1) % 2) (headB (t + 1) a' (allB R').length)).flatten.drop (firstS n a' * 64) = F'.flatten.drop (firstS n a' * 64) := by
      rw [← (flat_split e64 _ (by simpa using hin)).2, ← (flat_split hs.s64 _ hin).2]
      congr 1
      rw [List.drop_set, if_pos (by omega)]
    rw [e]
    exact hb
end
/-! What the power lets of a row of writes. -/
section
variable {s : DkX} (a1 : Nat) (L : List UInt8)
theorem wrLX_state (ho : s.off = false) (hR : s.R = []) : ∀ j, ∃ i, i ≤ j ∧ (wrLX s (wrC a1 L j)).F = s.F ∧ (wrLX s (wrC a1 L j)).R = wrC a1 L i ∧ ((wrLX s (wrC a1 L j)).off = false → i = j) ∧ (s.fu = 0 → (wrLX s (wrC a1 L j)).off = false ∧ (wrLX s (wrC a1 L j)).fu = 0)
  | 0 => ⟨0, Nat.le_refl _, rfl, hR, fun _ => rfl, fun h => ⟨ho, h⟩⟩
  | j + 1 => by
    obtain ⟨i, h1, h2, h3, h4, h5⟩ := wrLX_state ho hR j
    rw [wrC_succ, wrLX_snoc]
    generalize wrLX s (wrC a1 L j) = y at *
    unfold wrX
    cases hy : y.off with
    | true => exact ⟨i, by omega, by simp [h2], by simp [h3], fun e => (by simp [hy] at e), fun e => (by have := (h5 e).1; rw [hy] at this; cases this)⟩
    | false =>
      have hij := h4 hy
      rw [hij] at h3
      refine ⟨j + 1, Nat.le_refl _, by simp [h2], by simp [h3, wrC_succ], fun _ => rfl, fun e => ?_⟩
      have := h5 e
      simp [this.2]
end
/-- What an Append, or a Replace, makes of a disk: it broke off ahead of the bytes' Sync, or of the head's, or it is done. -/
theorem op_states {s : DkX} (ho : s.off = false) (hR : s.R = []) (n t a' f c' : Nat) (l : List UInt8) :
    ((tellX (filX s n a' f l) t a' c').off = true ∧ (tellX (filX s n a' f l) t a' c').F = s.F ∧ ∃ i, i ≤ cntP (f % 64 + l.length) ∧ (tellX (filX s n a' f l) t a' c').R = wrC (firstS n a' + f / 64) (filL s n a' f l) i) ∨
    ((tellX (filX s n a' f l) t a' c').off = true ∧ (tellX (filX s n a' f l) t a' c').F = appl s.F (wrC (firstS n a' + f / 64) (filL s n a' f l) (cntP (f % 64 + l.length))) ∧ (tellX (filX s n a' f l) t a' c').R = [((t + 1) % 2, headB (t + 1) a' c')]) ∨
    ((tellX (filX s n a' f l) t a' c').off = false ∧ (tellX (filX s n a' f l) t a' c').F = (appl s.F (wrC (firstS n a' + f / 64) (filL s n a' f l) (cntP (f % 64 + l.length)))).set ((t + 1) % 2) (headB (t + 1) a' c') ∧ (tellX (filX s n a' f l) t a' c').R = []) := by
  obtain ⟨i, h1, h2, h3, h4, h5⟩ := wrLX_state (firstS n a' + f / 64) (filL s n a' f l) ho hR (cntP (f % 64 + l.length))
  unfold filX
  generalize wrLX s (wrC (firstS n a' + f / 64) (filL s n a' f l) (cntP (f % 64 + l.length))) = y at *
  cases hy : y.off with
  | true =>
    rw [syX_off hy]
    refine .inl ?_
    unfold tellX
    rw [wrX_off hy, syX_off hy]
    exact ⟨hy, h2, i, h1, h3⟩
  | false =>
    obtain rfl := h4 hy
    by_cases hf : y.fu = 1
    · have e : syX y = ⟨y.F, y.R, 0, true⟩ := by simp [syX, hy, hf]
      rw [e]
      refine .inl ?_
      unfold tellX
      rw [wrX_off (s := ⟨y.F, y.R, 0, true⟩) rfl, syX_off (s := ⟨y.F, y.R, 0, true⟩) rfl]
      exact ⟨rfl, h2, _, h1, h3⟩
    · have e : syX y = ⟨appl y.F y.R, [], y.fu - 1, false⟩ := by simp [syX, hy, hf]
      rw [e, h2, h3]
      refine .inr ?_
      unfold tellX wrX syX
      by_cases hg : y.fu - 1 = 1
      · exact .inl (by simp [hg])
      · by_cases hg2 : y.fu - 1 - 1 = 1
        · exact .inl (by simp [hg, hg2])
        · exact .inr (by simp [hg, hg2, appl_snoc, appl])
theorem op_nofuse {s : DkX} (ho : s.off = false) (hR : s.R = []) (hf : s.fu = 0) (n t a' f c' : Nat) (l : List UInt8) : (tellX (filX s n a' f l) t a' c').off = false ∧ (tellX (filX s n a' f l) t a' c').fu = 0 := by
  obtain ⟨i, h1, h2, h3, h4, h5⟩ := wrLX_state (firstS n a' + f / 64) (filL s n a' f l) ho hR (cntP (f % 64 + l.length))
  unfold filX
  generalize wrLX s (wrC (firstS n a' + f / 64) (filL s n a' f l) (cntP (f % 64 + l.length))) = y at *
  obtain ⟨h6, h7⟩ := h5 hf
  have e : syX y = ⟨appl y.F y.R, [], 0, false⟩ := by simp [syX, h6, h7]
  rw [e]
  unfold tellX wrX syX
  simp
/-- Behind an Append or a Replace, whatever the power: all is done, or what a crash leaves holds the elder records or the newer ones. -/
theorem op_holds {s : DkX} {n t a : Nat} {R R' : List (List UInt8)} (ho : s.off = false) (hR : s.R = []) (h : HoldsL n t a R s.F) (h4 : 4 ≤ n) (h9 : n ≤ 8192) (ht : t + 1 ≤ 9223372036854775807) (a' f : Nat) (ha' : a' ≤ 1) (l : List UInt8)
    (hf : f < roomN n) (hfl : f + l.length ≤ roomN n) (hR' : (allB R').length = f + l.length) (hw : (a' = a ∧ f = (allB R).length ∧ allB R' = allB R ++ l) ∨ (a' ≠ a ∧ f = 0 ∧ allB R' = l)) :
    let y := tellX (filX s n a' f l) t a' (f + l.length)
    (y.off = false → y.R = [] ∧ HoldsL n (t + 1) a' R' y.F) ∧ (y.off = true → ∀ st, HoldsL n t a R (appl y.F (kept y.R st)) ∨ HoldsL n (t + 1) a' R' (appl y.F (kept y.R st))) := by
  intro y
  have hsv : secsA n ≤ 4096 := by unfold secsA; omega
  have hs2 : 2 + 2 * secsA n ≤ n := by unfold secsA; omega
  have hrv : roomN n = secsA n * 64 := rfl
  have hfs : firstS n a' = 2 + a' * secsA n := rfl
  have hfa : firstS n a = 2 + a * secsA n := rfl
  have hha := h.ha
  have hlen := h.len
  have hin1 : firstS n a' + f / 64 < s.F.length := by
    have : a' * secsA n ≤ 1 * secsA n := Nat.mul_le_mul_right _ ha'
    omega
  have hfit : firstS n a' + f / 64 + cntP (f % 64 + l.length) ≤ firstS n a' + secsA n := by unfold cntP; omega
  have hhi : firstS n a' + secsA n ≤ s.F.length := by
    have : a' * secsA n ≤ 1 * secsA n := Nat.mul_le_mul_right _ ha'
    omega
  have hfilL : filL s n a' f l = (s.F.getD (firstS n a' + f / 64) []).take (f % 64) ++ l := by unfold filL; rw [hR, appl_nil]
  have hsafe : ∀ i, i ≤ cntP (f % 64 + l.length) → ∀ x ∈ wrC (firstS n a' + f / 64) (filL s n a' f l) i, SafeW (firstS n a' + f / 64) (firstS n a' + secsA n) (f % 64) s.F x := fun i hi x hx => by
    rw [hfilL] at hx
    exact wrC_safe h.s64 _ _ _ l hin1 (by omega) i (by omega) x hx
  have hk : (∀ i, firstS n a ≤ i → i < firstS n a + secsA n → i < firstS n a' + f / 64 ∨ firstS n a' + secsA n ≤ i) ∨ (firstS n a' + f / 64 = firstS n a + (allB R).length / 64 ∧ f % 64 = (allB R).length % 64 ∧ (allB R).length < roomN n) := by
    rcases hw with ⟨rfl, rfl, _⟩ | ⟨hne, rfl, _⟩
    · exact .inr ⟨rfl, rfl, hf⟩
    · refine .inl fun i h1 h2 => ?_
      have : (a = 0 ∧ a' = 1) ∨ (a = 1 ∧ a' = 0) := by omega
      rcases this with ⟨rfl, rfl⟩ | ⟨rfl, rfl⟩ <;> omega
  have hold : ∀ ws : List WrV, (∀ x ∈ ws, SafeW (firstS n a' + f / 64) (firstS n a' + secsA n) (f % 64) s.F x) → HoldsL n t a R (appl s.F ws) := fun ws hws =>
    h.same h4 (safe_appl hhi ws s.F (SameO.refl h.s64) hws) (by omega) hk
  have hfull := hold _ (hsafe _ (Nat.le_refl _))
  have hbytes : ((appl s.F (wrC (firstS n a' + f / 64) (filL s n a' f l) (cntP (f % 64 + l.length)))).flatten.drop (firstS n a' * 64)).take (allB R').length = allB R' := by
    obtain ⟨Z, hZ, _⟩ := fill_flat h.s64 (firstS n a' + f / 64) (f % 64) l (by omega) hin1 (by omega)
    rw [← hfilL] at hZ
    have e1 : (firstS n a' + f / 64) * 64 + f % 64 = firstS n a' * 64 + f := by omega
    rw [e1] at hZ
    have hX : (s.F.flatten.take (firstS n a' * 64 + f)).length = firstS n a' * 64 + f := by
      rw [List.length_take, flat_len h.s64, hlen]
      omega
    have e2 : (s.F.flatten.take (firstS n a' * 64 + f)).drop (firstS n a' * 64) = (s.F.flatten.drop (firstS n a' * 64)).take f := by
      rw [List.drop_take, Nat.add_sub_cancel_left]
    have e3 : ((s.F.flatten.drop (firstS n a' * 64)).take f).length = f := by rw [← e2, List.length_drop, hX]; omega
    rw [hZ, hR', List.append_assoc, List.append_assoc, List.drop_append_of_le_length (by omega), e2, List.take_append, e3, List.take_of_length_le (by omega), Nat.add_sub_cancel_left, List.take_left]
    rcases hw with ⟨rfl, rfl, e⟩ | ⟨_, rfl, e⟩
    · rw [e, h.by_]
    · rw [e, List.take_zero, List.nil_append]
  have hnext := fun F' (hs : HoldsL n t a R F') (hb : (F'.flatten.drop (firstS n a' * 64)).take (allB R').length = allB R') => h.next h4 h9 a' ha' ht hs (R' := R') (by omega) hb
  rcases op_states ho hR n t a' f (f + l.length) l with ⟨o1, o2, i, hi, o3⟩ | ⟨o1, o2, o3⟩ | ⟨o1, o2, o3⟩
  · refine ⟨fun e => (by rw [show y.off = _ from o1] at e; cases e), fun _ st => .inl ?_⟩
    rw [show y.F = _ from o2, show y.R = _ from o3]
    exact hold _ fun x hx => hsafe i hi x (kept_mem _ _ x hx)
  · refine ⟨fun e => (by rw [show y.off = _ from o1] at e; cases e), fun _ st => ?_⟩
    rw [show y.F = _ from o2, show y.R = _ from o3]
    cases st with
    | nil =>
      rw [kept_none, appl_nil]
      exact .inl hfull
    | cons b st =>
      cases b with
      | false =>
        have e : kept [((t + 1) % 2, headB (t + 1) a' (f + l.length))] (false :: st) = [] := by simp [kept, kept_nil]
        rw [e, appl_nil]
        exact .inl hfull
      | true =>
        have e : kept [((t + 1) % 2, headB (t + 1) a' (f + l.length))] (true :: st) = [((t + 1) % 2, headB (t + 1) a' (f + l.length))] := by simp [kept, kept_nil]
        rw [e]
        refine .inr ?_
        have := hnext _ hfull hbytes
        rw [hR'] at this
        exact this
  · refine ⟨fun _ => ⟨o3, ?_⟩, fun e => (by rw [show y.off = _ from o1] at e; cases e)⟩
    rw [show y.F = _ from o2]
    have := hnext _ hfull hbytes
    rw [hR'] at this
    exact this
end Go.Proofs.Ytdlciehboimciaa
