/-
  Contract: bits.Mix.
-/
import Derived.Test.YtdlciehboimciaaBB
import Derived.Test.YtdlciehboimciaaQt
namespace Go.Proofs.Ytdlciehboimciaa
set_option maxRecDepth 100000
open Go.RowKit
set_option linter.unusedVariables false

theorem hidx_ {p : Prop} (h : p) : Hid p := h
theorem xor8 (a b : UInt8) : bits .xor .u8 (a.toNat : Int) (b.toNat : Int) = (((a ^^^ b).toNat : Nat) : Int) := by
  have ha := a.toNat_lt
  have hb := b.toNat_lt
  have hx : a.toNat ^^^ b.toNat < 2 ^ 8 := Nat.xor_lt_two_pow (by omega) (by omega)
  have h1 : (BitVec.ofInt 8 (a.toNat : Int)).toNat = a.toNat := by
    rw [BitVec.ofInt_natCast, BitVec.toNat_ofNat]; exact Nat.mod_eq_of_lt (by omega)
  have h2 : (BitVec.ofInt 8 (b.toNat : Int)).toNat = b.toNat := by
    rw [BitVec.ofInt_natCast, BitVec.toNat_ofNat]; exact Nat.mod_eq_of_lt (by omega)
  show IntKind.u8.wrap ((BitVec.ofInt 8 (a.toNat : Int) ^^^ BitVec.ofInt 8 (b.toNat : Int)).toNat : Int) = _
  rw [BitVec.toNat_xor, h1, h2, UInt8.toNat_xor]
  simp [IntKind.wrap, IntKind.signed, IntKind.bits]
  omega

/-- Two texts mixed, as long as the shorter. -/
def mixB (l m : List UInt8) : List UInt8 := List.zipWith (· ^^^ ·) l m
theorem mixB_len (l m : List UInt8) : (mixB l m).length = min l.length m.length := by simp [mixB]
theorem mixB_get (l m : List UInt8) (k : Nat) (h1 : k < l.length) (h2 : k < m.length) : (mixB l m).getD k 0 = l.getD k 0 ^^^ m.getD k 0 := by
  have h : k < (List.zipWith (fun x y : UInt8 => x ^^^ y) l m).length := by simp; omega
  simp [mixB, List.getD, h1, h2, List.getElem?_eq_getElem h]
/-- The row behind k bytes. -/
def mixRow (l m : List UInt8) (n k : Nat) : List UInt8 := (mixB l m).take k ++ List.replicate (n - k) 0
theorem mixRow_len (l m : List UInt8) (n k : Nat) (hn : n = min l.length m.length) (hk : k ≤ n) : (mixRow l m n k).length = n := by
  simp [mixRow, mixB_len]; omega
theorem mixRow_set (l m : List UInt8) (n k : Nat) (hn : n = min l.length m.length) (hk : k < n) : (mixRow l m n k).set k (l.getD k 0 ^^^ m.getD k 0) = mixRow l m n (k + 1) := by
  have hl : (mixB l m).length = n := by rw [mixB_len, hn]
  have e : n - k = (n - (k + 1)) + 1 := by omega
  have h := set_mid ((mixB l m).take k) (List.replicate (n - (k + 1)) 0) (l.getD k 0 ^^^ m.getD k 0)
  rw [List.length_take, hl, Nat.min_eq_left (by omega)] at h
  unfold mixRow
  rw [e, List.replicate_succ, h, List.take_succ_eq_append_getElem (by omega)]
  have hg := mixB_get l m k (by omega) (by omega)
  have hd : (mixB l m).getD k 0 = (mixB l m)[k]'(by omega) := by simp [List.getD, List.getElem?_eq_getElem (show k < (mixB l m).length by omega)]
  rw [hd] at hg
  rw [hg]

end Go.Proofs.Ytdlciehboimciaa
