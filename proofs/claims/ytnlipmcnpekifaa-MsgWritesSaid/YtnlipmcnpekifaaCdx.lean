/-
  What is taken of bytes, and what was put: numbers, bytes with their count (plain mathematics).
-/
import Derived.Test.YtnlipmcnpekifaaGR
namespace Go.Proofs.Ytnlipmcnpekifaa
set_option maxRecDepth 100000
open Go.ChangeShapes Go.WideShapes Go.ChangeAt Go.RowKit
set_option linter.unusedVariables false
set_option linter.unusedSimpArgs false

theorem highx_cons (n x : Nat) : highB (n + 1) x = UInt8.ofNat (x / 256 ^ n % 256) :: highB n x := by
  rw [highB, lowB_succ, List.reverse_append]
  rfl
theorem highx_add (b n y : Nat) : highB n (b * 256 ^ n + y) = highB n y := by
  unfold highB lowB
  congr 1
  apply List.map_congr_left
  intro i hi
  have hi := List.mem_range.1 hi
  obtain ⟨d, rfl⟩ : ∃ d, n = i + 1 + d := ⟨n - i - 1, by omega⟩
  have e : b * 256 ^ (i + 1 + d) + y = 256 ^ i * (256 * (256 ^ d * b)) + y := by
    rw [Nat.pow_add, Nat.pow_succ]
    congr 1
    rw [Nat.mul_comm b, Nat.mul_assoc, Nat.mul_assoc]
  rw [e, Nat.mul_add_div (Nat.pow_pos (by omega)), Nat.mul_add_mod]
theorem highx_beN : ∀ l : List UInt8, highB l.length (beN l) = l
  | [] => rfl
  | b :: l => by
    have ih := highx_beN l
    have hlt := beN_lt l
    rw [List.length_cons, beN_cons, highx_cons, highx_add, ih]
    congr 1
    have hb := b.toNat_lt
    rw [Nat.mul_comm, Nat.mul_add_div (Nat.pow_pos (by omega)), Nat.div_eq_of_lt hlt, Nat.add_zero, Nat.mod_eq_of_lt (by omega)]
    simp
/-- A number that is taken: what stood there. -/
theorem numSx_ok {size : Nat} {most : Int} {l r : List UInt8} {e v : Int} (h : numS size most l e = (v, r, 0)) : e = 0 ∧ l = highB size v.toNat ++ r ∧ 0 ≤ v ∧ v ≤ most ∧ v.toNat < 256 ^ size := by
  unfold numS at h
  split at h
  · rename_i h1
    injection h with _ h
    injection h with _ h
    exact absurd h h1
  · rename_i h1
    split at h
    · injection h with _ h
      injection h with _ h
      cases h
    · rename_i h2
      split at h
      · injection h with _ h
        injection h with _ h
        cases h
      · rename_i h3
        injection h with h4 h
        injection h with h5 h
        subst h4 h5
        have hl : (l.take size).length = size := by rw [List.length_take]; omega
        have hb := highx_beN (l.take size)
        have hlt := beN_lt (l.take size)
        rw [hl] at hb hlt
        refine ⟨by omega, ?_, by omega, by omega, by rw [Int.toNat_natCast]; exact hlt⟩
        rw [Int.toNat_natCast, hb, List.take_append_drop]
theorem numSx_put {size : Nat} {most : Int} {v : Int} (h0 : 0 ≤ v) (h1 : v ≤ most) (h2 : v.toNat < 256 ^ size) (r : List UInt8) : numS size most (highB size v.toNat ++ r) 0 = (v, r, 0) := by
  have hl := highB_len size v.toNat
  have ht : (highB size v.toNat ++ r).take size = highB size v.toNat := List.take_left' hl
  have hb : beN (highB size v.toNat) = v.toNat := by rw [beN_highB]; exact Nat.mod_eq_of_lt h2
  rw [numS_yes (by rw [List.length_append, hl]; omega) (by rw [ht, hb]; omega), ht, hb, List.drop_left' hl]
  congr 1
  omega
theorem fixSx_ok {n : Int} {l s r : List UInt8} {e : Int} (h0 : 0 ≤ n) (h : fixS n l e = (s, r, 0)) : e = 0 ∧ l = s ++ r ∧ (s.length : Int) = n := by
  unfold fixS at h
  split at h
  · rename_i h1
    injection h with h2 h
    injection h with h3 h
    subst h2 h3 h
    rcases h1 with h1 | h1
    · exact absurd rfl h1
    · exact ⟨rfl, rfl, by simp only [List.length_nil]; omega⟩
  · rename_i h1
    split at h
    · injection h with _ h
      injection h with _ h
      cases h
    · rename_i h2
      injection h with h3 h
      injection h with h4 h
      subst h3 h4
      refine ⟨by omega, (List.take_append_drop _ _).symm, ?_⟩
      rw [List.length_take]
      omega
theorem fixSx_put (s r : List UInt8) : fixS (s.length : Int) (s ++ r) 0 = (s, r, 0) := by
  by_cases h : s = []
  · subst h
    exact fixS_off (.inr (by simp))
  · have : 0 < s.length := List.length_pos_iff.2 h
    rw [fixS_yes this (by rw [List.length_append]; omega), List.take_left, List.drop_left]
theorem bytSx_ok {most : Int} {l s r : List UInt8} {e : Int} (h : bytS most l e = (s, r, 0)) : e = 0 ∧ l = highB 4 s.length ++ s ++ r ∧ (s.length : Int) ≤ most := by
  unfold bytS at h
  obtain ⟨v, l2, e2, hS⟩ : ∃ v l2 e2, numS 4 most l e = (v, l2, e2) := ⟨_, _, _, rfl⟩
  rw [hS] at h
  have hb : 0 ≤ v := by
    have : v = (numS 4 most l e).1 := by rw [hS]
    rw [this]
    unfold numS
    repeat' split
    all_goals (simp only; omega)
  obtain ⟨rfl, rfl, hl⟩ := fixSx_ok (by exact hb) h
  obtain ⟨rfl, rfl, h1, h2, h3⟩ := numSx_ok hS
  exact ⟨rfl, by rw [show v.toNat = s.length by omega, List.append_assoc], by omega⟩
theorem bytSx_put {most : Int} {s : List UInt8} (h1 : (s.length : Int) ≤ most) (h2 : s.length < 4294967296) (r : List UInt8) : bytS most (highB 4 s.length ++ s ++ r) 0 = (s, r, 0) := by
  unfold bytS
  have e := numSx_put (size := 4) (most := most) (v := (s.length : Int)) (by omega) h1 (by rw [Int.toNat_natCast]; exact Nat.lt_of_lt_of_le h2 (by decide)) (s ++ r)
  rw [Int.toNat_natCast] at e
  rw [List.append_assoc, e]
  exact fixSx_put s r

theorem endS_ok {r : List UInt8} {er : Int} (h : endS r er = 0) : er = 0 ∧ r = [] := by
  unfold endS at h
  split at h
  · rename_i h1
    exact absurd h h1
  · rename_i h1
    split at h
    · cases h
    · rename_i h2
      exact ⟨by omega, List.eq_nil_of_length_eq_zero (by omega)⟩
end Go.Proofs.Ytnlipmcnpekifaa
