/-
  Contracts: the document's own Put and Word over strings.
-/
import Derived.Test.YtegfnlnbhhmkjaaDoorBB
import Derived.BigCall
namespace Go.Proofs.YtegfnlnbhhmkjaaDoor
set_option maxRecDepth 100000
open Go.RowKit

theorem strOf_append (l m : List UInt8) : strOf l ++ strOf m = strOf (l ++ m) := by
  apply ByteArray.ext
  simp [strOf, ByteArray.data_append]

/-- 'string([]byte{x % 256})'. -/
theorem conv_one (y : Nat) (W : World) :
    (convert 39 9 (.slice (some ⟨W.heap.size, 0, none⟩) 1 1)).run Tryd.prog (W.alloc (.cells #[.int .u8 ((y : Int) % 256)] 5)) = .ok (.string (strOf [UInt8.ofNat (y % 256)])) (W.alloc (.cells #[.int .u8 ((y : Int) % 256)] 5)) := by
  have h := conv_strn ((Blk8.new W [UInt8.ofNat (y % 256)]).rd (Blk8.new W [UInt8.ofNat (y % 256)]).lt) 1 1 rfl
  have e : rowOf [UInt8.ofNat (y % 256)] = #[.int .u8 ((y : Int) % 256)] := by simp [rowOf]
  rw [e] at h
  exact h

theorem lowB_take (n x k : Nat) (hk : k ≤ n) : (lowB n x).take k = lowB k x := by
  unfold lowB
  rw [← List.map_take, List.take_range, Nat.min_eq_left hk]

/-- So many bytes, as Put has them. -/
def putB (high : Bool) (n x : Nat) : List UInt8 := if high then highB n x else lowB n x
theorem putB_succ (high : Bool) (n x : Nat) : putB high (n + 1) x = if high then UInt8.ofNat (x / 256 ^ n % 256) :: putB high n x else putB high n x ++ [UInt8.ofNat (x / 256 ^ n % 256)] := by
  cases high
  · simp [putB, lowB_succ]
  · simp [putB, highB, lowB_succ]

theorem putB_len (high : Bool) (n x : Nat) : (putB high n x).length = n := by
  cases high
  · exact lowB_len n x
  · exact highB_len n x

theorem strOf_get (l : List UInt8) (k : Nat) (h : k < (strOf l).size) : ((strOf l)[k]'h).toNat = (l.getD k 0).toNat := by
  have hl : k < l.length := by rw [strOf_size] at h; exact h
  have e : (strOf l)[k]'h = l[k]'hl := rfl
  rw [e]
  simp [List.getD, hl]

theorem word_step (l m : List UInt8) (k j : Nat) (hk : k < m.length) (h8 : m.length ≤ 8) (h : j < (strOf l).size) (he : (l.getD j 0).toNat = (m.getD k 0).toNat) :
    IntKind.u64.wrap (IntKind.u64.wrap ((beN (m.take k) : Nat) * 256 : Int) + IntKind.u64.wrap (((strOf l)[j]'h).toNat : Int)) = ((beN (m.take (k + 1)) : Nat) : Int) := by
  rw [strOf_get, he]
  have h1 := beN_lt (m.take k)
  have hb := (m.getD k 0).toNat_lt
  rw [List.length_take, Nat.min_eq_left (by omega)] at h1
  have h7 : 256 ^ k ≤ 256 ^ 7 := Nat.pow_le_pow_right (by omega) (by omega)
  have h78 : (256 : Nat) ^ 7 = 72057594037927936 := by decide
  rw [take_snoc8 m k hk, beN_snoc]
  generalize beN (m.take k) = y at *
  generalize (m.getD k 0).toNat = z at *
  rw [IntWalk.u64_in ((y : Int) * 256) (by omega), IntWalk.u64_in (z : Int) (by omega), IntWalk.u64_in _ (by omega)]
  omega

theorem getD_rev (l : List UInt8) (k : Nat) (h : k < l.length) : l.reverse.getD k 0 = l.getD (l.length - 1 - k) 0 := by
  have h2 : l.length - 1 - k < l.length := by omega
  simp [List.getD, h, h2]

end Go.Proofs.YtegfnlnbhhmkjaaDoor
