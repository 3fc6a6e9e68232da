/-
  Carries of two rows of bytes that are told together; two keys with one beginning: their tags and each other's ends, told together, have the same last sixteen bytes.
-/
import Derived.Test.YtilgpblfdfhioaaP6
namespace Go.Proofs.Ytilgpblfdfhioaa
open Go.RowKit
set_option linter.unusedVariables false

theorem leN16 (l : List UInt8) (h : l.length = 16) : leN l < 340282366920938463463374607431768211456 := by
  have h1 := leN_lt l
  rwa [h, show (256 : Nat) ^ 16 = 340282366920938463463374607431768211456 by decide] at h1
/-- What has been carried behind k bytes. -/
def carr (b e : List UInt8) (k : Nat) : Nat := (leN (b.take k) + leN (e.take k)) / 256 ^ k
theorem leN_take_succ (l : List UInt8) (k : Nat) (h : k < l.length) : leN (l.take (k + 1)) = leN (l.take k) + (l.getD k 0).toNat * 256 ^ k := by
  rw [take_snoc8 l k h, leN_snoc, List.length_take, Nat.min_eq_left (Nat.le_of_lt h)]
theorem carr_next (b e : List UInt8) (k : Nat) (hb : k < b.length) (he : k < e.length) : carr b e (k + 1) = ((b.getD k 0).toNat + (e.getD k 0).toNat + carr b e k) / 256 := by
  unfold carr
  rw [leN_take_succ b k hb, leN_take_succ e k he, Nat.pow_succ, ← Nat.div_div_eq_div_mul]
  congr 1
  have hp : 0 < 256 ^ k := Nat.pow_pos (by omega)
  have h : leN (b.take k) + (b.getD k 0).toNat * 256 ^ k + (leN (e.take k) + (e.getD k 0).toNat * 256 ^ k) = (leN (b.take k) + leN (e.take k)) + 256 ^ k * ((b.getD k 0).toNat + (e.getD k 0).toNat) := by
    rw [Nat.mul_add, Nat.mul_comm (256 ^ k), Nat.mul_comm (256 ^ k)]
    omega
  rw [h, Nat.add_mul_div_left _ _ hp]
  omega
theorem carr_le (b e : List UInt8) : ∀ k, k ≤ b.length → k ≤ e.length → carr b e k ≤ 1
  | 0, _, _ => by simp [carr, leN, beN]
  | k + 1, hb, he => by
    have ih := carr_le b e k (by omega) (by omega)
    rw [carr_next b e k (by omega) (by omega)]
    have h1 := (b.getD k 0).toNat_lt
    have h2 := (e.getD k 0).toNat_lt
    omega
theorem leN_split (l : List UInt8) (k : Nat) : leN l = leN (l.take k) + 256 ^ (l.take k).length * leN (l.drop k) := by
  have h := leN_append (l.take k) (l.drop k)
  rwa [List.take_append_drop] at h
theorem digit (b e : List UInt8) (k : Nat) (hb : k < b.length) (he : k < e.length) : (leN b + leN e) / 256 ^ k % 256 = ((b.getD k 0).toNat + (e.getD k 0).toNat + carr b e k) % 256 := by
  have hp : 0 < 256 ^ k := Nat.pow_pos (by omega)
  have h1 := leN_split b k
  have h2 := leN_split e k
  rw [List.length_take, Nat.min_eq_left (Nat.le_of_lt hb)] at h1
  rw [List.length_take, Nat.min_eq_left (Nat.le_of_lt he)] at h2
  have h3 : leN b + leN e = (leN (b.take k) + leN (e.take k)) + 256 ^ k * (leN (b.drop k) + leN (e.drop k)) := by rw [Nat.mul_add]; omega
  rw [h3, Nat.add_mul_div_left _ _ hp]
  have d1 : leN (b.drop k) = (b.getD k 0).toNat + 256 * leN (b.drop (k + 1)) := by
    rw [List.drop_eq_getElem_cons hb, leN_cons]; simp [List.getD, hb]
  have d2 : leN (e.drop k) = (e.getD k 0).toNat + 256 * leN (e.drop (k + 1)) := by
    rw [List.drop_eq_getElem_cons he, leN_cons]; simp [List.getD, he]
  unfold carr
  rw [d1, d2]
  omega
theorem lowB_getD (n x k : Nat) (h : k < n) : ((lowB n x).getD k 0).toNat = x / 256 ^ k % 256 := by
  simp [lowB, List.getD, h]
/-- A byte of the first sixteen hangs on the number modulo 2^128 alone. -/
theorem digit_mod (m k : Nat) (h : k < 16) : m % 340282366920938463463374607431768211456 / 256 ^ k % 256 = m / 256 ^ k % 256 := by
  have e : 340282366920938463463374607431768211456 = 256 ^ k * 256 ^ (16 - k) := by
    rw [← Nat.pow_add, show k + (16 - k) = 16 by omega]
  rw [e, Nat.mod_mul_right_div_self]
  refine Nat.mod_mod_of_dvd _ ?_
  rw [show 16 - k = (16 - k - 1) + 1 by omega, Nat.pow_succ]
  exact Nat.dvd_mul_left _ _
theorem leN_tag (key b : List UInt8) : leN (polyTag key b) = ((accP (factN key).val b ((b.length + 15) / 16) + ((leN (key.drop 16) : Nat) : Int)) % 340282366920938463463374607431768211456).toNat := by
  unfold polyTag
  rw [leN_lowB, show (256 : Nat) ^ 16 = 340282366920938463463374607431768211456 by decide]
  omega
/-- The other key: the same beginning, another end. -/
def otherK (key e : List UInt8) : List UInt8 := key.take 16 ++ e
theorem otherK_len (key e : List UInt8) (hk : key.length = 32) (he : e.length = 16) : (otherK key e).length = 32 := by simp [otherK, hk, he]
theorem otherK_laid (key e : List UInt8) (hk : key.length = 32) (he : e.length = 16) : laid key 16 e = otherK key e := by
  unfold laid otherK
  rw [he, List.drop_of_length_le (by omega), List.append_nil]
theorem factN_other (key e : List UInt8) (hk : key.length = 32) : factN (otherK key e) = factN key := by
  have h : (otherK key e).take 16 = key.take 16 := List.take_left' (by simp [hk])
  unfold factN
  rw [h]
theorem sums_eq (key e b : List UInt8) (hk : key.length = 32) : (leN (polyTag key b) + leN e) % 340282366920938463463374607431768211456 = (leN (polyTag (otherK key e) b) + leN (key.drop 16)) % 340282366920938463463374607431768211456 := by
  have hd : (otherK key e).drop 16 = e := List.drop_left' (by simp [hk])
  rw [leN_tag, leN_tag, factN_other key e hk, hd]
  generalize accP (factN key).val b ((b.length + 15) / 16) = a
  omega
theorem sums_digit (key e b : List UInt8) (k : Nat) (hk : key.length = 32) (he : e.length = 16) (h : k < 16) :
    (((polyTag key b).getD k 0).toNat + (e.getD k 0).toNat + carr (polyTag key b) e k) % 256 = (((polyTag (otherK key e) b).getD k 0).toNat + ((key.drop 16).getD k 0).toNat + carr (polyTag (otherK key e) b) (key.drop 16) k) % 256 := by
  have h1 := polyTag_len key b
  have h2 := polyTag_len (otherK key e) b
  have h3 : (key.drop 16).length = 16 := by simp [hk]
  rw [← digit (polyTag key b) e k (by omega) (by omega), ← digit (polyTag (otherK key e) b) (key.drop 16) k (by omega) (by omega), ← digit_mod _ k h, sums_eq key e b hk, digit_mod _ k h]
end Go.Proofs.Ytilgpblfdfhioaa
