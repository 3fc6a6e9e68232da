/-
  log, by value: what writing bytes sector by sector makes of a disk.
-/
import Derived.Test.YtdlciehboimciaaLA
import Derived.Test.YtdlciehboimciaaDD
namespace Go.Proofs.Ytdlciehboimciaa
set_option maxRecDepth 100000
open Go.RowKit
set_option linter.unusedVariables false
set_option linter.unusedSimpArgs false

theorem flat_split {S : List (List UInt8)} (hS : ∀ D ∈ S, D.length = 64) (i : Nat) (h : i ≤ S.length) : (S.take i).flatten = S.flatten.take (i * 64) ∧ (S.drop i).flatten = S.flatten.drop (i * 64) := by
  have e : S.flatten = (S.take i).flatten ++ (S.drop i).flatten := by rw [← List.flatten_append, List.take_append_drop]
  have hl : (S.take i).flatten.length = i * 64 := by
    rw [flat_len fun D hD => hS D (List.mem_of_mem_take hD), List.length_take, Nat.min_eq_left h]
  rw [e]
  exact ⟨(List.take_left' hl).symm, (List.drop_left' hl).symm⟩
theorem flat_set {S : List (List UInt8)} (hS : ∀ D ∈ S, D.length = 64) (i : Nat) (h : i < S.length) (D : List UInt8) : (S.set i D).flatten = S.flatten.take (i * 64) ++ D ++ S.flatten.drop ((i + 1) * 64) := by
  rw [← (flat_split hS i (by omega)).1, ← (flat_split hS (i + 1) (by omega)).2]
  have e : S.set i D = S.take i ++ [D] ++ S.drop (i + 1) := by
    rw [List.set_eq_take_append_cons_drop, if_pos h]
    simp
  rw [e]
  simp
/-! Pieces. -/
def padTo (n : Nat) (p : List UInt8) : List UInt8 := p ++ List.replicate (n - p.length) 0
theorem padTo_len (n : Nat) (p : List UInt8) (h : p.length ≤ n) : (padTo n p).length = n := by simp [padTo]; omega
theorem padTo_full (n : Nat) (p : List UInt8) (h : n ≤ p.length) : padTo n p = p := by simp [padTo, Nat.sub_eq_zero_of_le h]
def pieceAt (L : List UInt8) (k : Nat) : List UInt8 := (L.drop (k * 64)).take 64
theorem pieceAt_len (L : List UInt8) (k : Nat) : (pieceAt L k).length = min 64 (L.length - k * 64) := by simp [pieceAt]
def wrC (a : Nat) (L : List UInt8) (k : Nat) : List WrV := (List.range k).map fun i => (a + i, padTo 64 (pieceAt L i))
theorem wrC_succ (a : Nat) (L : List UInt8) (k : Nat) : wrC a L (k + 1) = wrC a L k ++ [(a + k, padTo 64 (pieceAt L k))] := by simp [wrC, List.range_succ]
theorem wrC_len (a : Nat) (L : List UInt8) (k : Nat) : (wrC a L k).length = k := by simp [wrC]
theorem wrC_ok (a : Nat) (L : List UInt8) (k : Nat) : ∀ x ∈ wrC a L k, a ≤ x.1 ∧ x.1 < a + k ∧ x.2.length = 64 := fun x hx => by
  obtain ⟨i, hi, rfl⟩ := List.mem_map.1 hx
  have := List.mem_range.1 hi
  exact ⟨by simp, by simpa using this, padTo_len _ _ (by rw [pieceAt_len]; omega)⟩
theorem appl_wrC {S : List (List UInt8)} (hS : ∀ D ∈ S, D.length = 64) (a : Nat) (L : List UInt8) : ∀ k, a + k ≤ S.length → (k = 0 ∨ (k - 1) * 64 < L.length) →
    (appl S (wrC a L k)).flatten = S.flatten.take (a * 64) ++ padTo (k * 64) (L.take (k * 64)) ++ S.flatten.drop ((a + k) * 64)
  | 0, h, _ => by
    have e : wrC a L 0 = [] := rfl
    have e2 : padTo (0 * 64) (L.take (0 * 64)) = [] := by simp [padTo]
    rw [e, appl_nil, e2, List.append_nil, Nat.add_zero, List.take_append_drop]
  | k + 1, h, hl => by
    have hl2 : k * 64 < L.length := by rcases hl with h | h; omega; simpa using h
    have ih := appl_wrC hS a L k (by omega) (by rcases Nat.eq_zero_or_pos k with h | h; exact .inl h; exact .inr (by omega))
    have hf := flat_len hS
    have h64 : ∀ D ∈ appl S (wrC a L k), D.length = 64 := appl_all _ _ hS fun x hx => (wrC_ok a L k x hx).2.2
    have hT : (S.flatten.take (a * 64)).length = a * 64 := by rw [List.length_take, hf]; omega
    have hM : L.take (k * 64) = padTo (k * 64) (L.take (k * 64)) := (padTo_full _ _ (by rw [List.length_take]; omega)).symm
    have hMl : (L.take (k * 64)).length = k * 64 := by rw [List.length_take]; omega
    rw [← hM] at ih
    have hTM : (S.flatten.take (a * 64) ++ L.take (k * 64)).length = (a + k) * 64 := by rw [List.length_append, hT, hMl]; omega
    rw [wrC_succ, appl_snoc, flat_set h64 (a + k) (by rw [appl_len]; omega), ih, List.take_left' hTM, List.drop_append, List.drop_of_length_le (by rw [hTM]; omega), hTM, List.drop_drop, List.nil_append]
    have e1 : (a + k) * 64 + ((a + k + 1) * 64 - (a + k) * 64) = (a + (k + 1)) * 64 := by omega
    have e2 : L.take ((k + 1) * 64) = L.take (k * 64) ++ pieceAt L k := by
      rw [show (k + 1) * 64 = k * 64 + 64 by omega, List.take_add]
      rfl
    have e3 : padTo ((k + 1) * 64) (L.take ((k + 1) * 64)) = L.take (k * 64) ++ padTo 64 (pieceAt L k) := by
      rw [e2]
      unfold padTo
      rw [List.append_assoc, List.length_append, hMl, show (k + 1) * 64 - (k * 64 + (pieceAt L k).length) = 64 - (pieceAt L k).length by omega]
    rw [e1, e3]
    simp only [List.append_assoc]
/-- How many pieces. -/
def cntP (m : Nat) : Nat := (m + 63) / 64
/-- Bytes written behind what stood ahead of them: all ahead of them is as it was. -/
theorem fill_flat {S : List (List UInt8)} (hS : ∀ D ∈ S, D.length = 64) (a f : Nat) (b : List UInt8) (hf : f < 64) (ha : a < S.length) (hk : a + cntP (f + b.length) ≤ S.length) :
    ∃ Z, (appl S (wrC a ((S.getD a []).take f ++ b) (cntP (f + b.length)))).flatten = S.flatten.take (a * 64 + f) ++ b ++ Z ++ S.flatten.drop ((a + cntP (f + b.length)) * 64) ∧ a * 64 + f + b.length + Z.length = (a + cntP (f + b.length)) * 64 := by
  have hD : (S.getD a []).length = 64 := getD_mem64 hS a ha
  have hL : ((S.getD a []).take f ++ b).length = f + b.length := by rw [List.length_append, List.length_take, hD]; omega
  have h1 := appl_wrC hS a ((S.getD a []).take f ++ b) (cntP (f + b.length)) hk (by rw [hL]; unfold cntP; omega)
  have hlf := flat_len hS
  have e1 : S.flatten.take (a * 64 + f) = S.flatten.take (a * 64) ++ (S.getD a []).take f := by
    rw [List.take_add]
    congr 1
    have e2 := (flat_split hS a (by omega)).2
    rw [← e2]
    have e3 : S.drop a = S.getD a [] :: S.drop (a + 1) := by
      rw [List.drop_eq_getElem_cons ha]
      simp [List.getD, ha]
    rw [e3, List.flatten_cons, List.take_append_of_le_length (by omega)]
  have e4 : ((S.getD a []).take f ++ b).take (cntP (f + b.length) * 64) = (S.getD a []).take f ++ b := List.take_of_length_le (by rw [hL]; unfold cntP; omega)
  refine ⟨List.replicate (cntP (f + b.length) * 64 - (f + b.length)) 0, ?_, ?_⟩
  · rw [h1, e4, e1]
    unfold padTo
    rw [hL]
    simp only [List.append_assoc]
  · simp only [List.length_replicate]
    unfold cntP
    omega
end Go.Proofs.Ytdlciehboimciaa
