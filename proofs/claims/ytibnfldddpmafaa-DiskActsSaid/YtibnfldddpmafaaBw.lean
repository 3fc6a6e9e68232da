/-
  Contracts: the words that bytes are, the lowest or the highest first; the document's own Word.
-/
import Derived.Test.YtibnfldddpmafaaBp
namespace Go.Proofs.Ytibnfldddpmafaa
open Go.RowKit

/-- The number of bytes, the highest first. -/
def beN (l : List UInt8) : Nat := l.foldl (fun x b => x * 256 + b.toNat) 0
theorem beN_snoc (l : List UInt8) (b : UInt8) : beN (l ++ [b]) = beN l * 256 + b.toNat := by simp [beN]
theorem beN_from (l : List UInt8) : ∀ x : Nat, l.foldl (fun x b => x * 256 + b.toNat) x = x * 256 ^ l.length + beN l := by
  induction l with
  | nil => intro x; simp [beN]
  | cons b l ih =>
    intro x
    unfold beN
    rw [List.foldl_cons, List.foldl_cons, ih, ih, List.length_cons, Nat.pow_succ, Nat.zero_mul, Nat.zero_add, Nat.add_mul, Nat.mul_assoc, Nat.mul_comm 256, Nat.add_assoc]
theorem beN_cons (b : UInt8) (l : List UInt8) : beN (b :: l) = b.toNat * 256 ^ l.length + beN l := by
  have h := beN_from l b.toNat
  unfold beN
  rw [List.foldl_cons, Nat.zero_mul, Nat.zero_add]
  exact h
theorem beN_lt (l : List UInt8) : beN l < 256 ^ l.length := by
  induction l with
  | nil => simp [beN]
  | cons b l ih =>
    rw [beN_cons, List.length_cons, Nat.pow_succ]
    have hb := b.toNat_lt
    have : b.toNat * 256 ^ l.length ≤ 255 * 256 ^ l.length := Nat.mul_le_mul_right _ (by omega)
    omega
/-- The number of bytes, the lowest first. -/
def leN (l : List UInt8) : Nat := beN l.reverse
theorem leN_snoc (l : List UInt8) (b : UInt8) : leN (l ++ [b]) = leN l + b.toNat * 256 ^ l.length := by
  unfold leN
  rw [List.reverse_append, List.reverse_singleton, List.singleton_append, beN_cons, List.length_reverse, Nat.add_comm]
theorem leN_lt (l : List UInt8) : leN l < 256 ^ l.length := by
  have := beN_lt l.reverse
  rwa [List.length_reverse] at this

theorem beN_append (l m : List UInt8) : beN (l ++ m) = beN l * 256 ^ m.length + beN m := by
  unfold beN
  rw [List.foldl_append, beN_from]
  rfl

theorem leN_lowB (n x : Nat) : leN (lowB n x) = x % 256 ^ n := by
  induction n with
  | zero => simp [lowB, leN, beN, Nat.mod_one]
  | succ n ih =>
    rw [lowB_succ, leN_snoc, ih, lowB_len, Nat.mod_pow_succ, Nat.mul_comm (256 ^ n)]
    congr 2
    simp
theorem beN_highB (n x : Nat) : beN (highB n x) = x % 256 ^ n := by
  rw [← leN_lowB]
  rfl
theorem below_drewN {B : Nat} {a w : World} (h : Below B a w) (n : Nat) : Below B a (w.drewN n) := ⟨h.os, h.tape, h.output, h.size, h.block⟩

theorem take_snoc8 (l : List UInt8) (k : Nat) (h : k < l.length) : l.take (k + 1) = l.take k ++ [l.getD k 0] := by
  rw [List.take_succ_eq_append_getElem h]
  simp [List.getD, h]

theorem or_u64_add (a b c : Nat) (k : Nat) (hb : b < 2 ^ k) (h : a = c * 2 ^ k) (ha : a + b < 18446744073709551616) : bits .or .u64 (a : Int) (b : Int) = ((a + b : Nat) : Int) := by
  have e : a ||| b = a + b := by
    rw [h, Nat.mul_comm]
    exact (Nat.two_pow_add_eq_or_of_lt hb c).symm
  show IntKind.u64.wrap ((BitVec.ofInt 64 (a : Int) ||| BitVec.ofInt 64 (b : Int)).toNat : Int) = _
  rw [BitVec.toNat_or, BitVec.ofInt_natCast, BitVec.ofInt_natCast, BitVec.toNat_ofNat, BitVec.toNat_ofNat, Nat.mod_eq_of_lt (by omega : a < 2 ^ 64), Nat.mod_eq_of_lt (by omega : b < 2 ^ 64), e, IntKind.wrap_u64]
  omega
theorem or_u64_add' (a b c : Nat) (k : Nat) (hb : b < 2 ^ k) (h : a = c * 2 ^ k) (ha : a + b < 18446744073709551616) : bits .or .u64 (b : Int) (a : Int) = ((b + a : Nat) : Int) := by
  have e : b ||| a = b + a := by
    rw [h, Nat.mul_comm, Nat.or_comm, ← Nat.two_pow_add_eq_or_of_lt hb c, Nat.add_comm]
  show IntKind.u64.wrap ((BitVec.ofInt 64 (b : Int) ||| BitVec.ofInt 64 (a : Int)).toNat : Int) = _
  rw [BitVec.toNat_or, BitVec.ofInt_natCast, BitVec.ofInt_natCast, BitVec.toNat_ofNat, BitVec.toNat_ofNat, Nat.mod_eq_of_lt (by omega : a < 2 ^ 64), Nat.mod_eq_of_lt (by omega : b < 2 ^ 64), e, IntKind.wrap_u64]
  omega
theorem pow256_le {k : Nat} (h : k ≤ 8) : 256 ^ k ≤ 18446744073709551616 := by
  have : 256 ^ k ≤ 256 ^ 8 := Nat.pow_le_pow_right (by omega) h
  simpa using this

end Go.Proofs.Ytibnfldddpmafaa
