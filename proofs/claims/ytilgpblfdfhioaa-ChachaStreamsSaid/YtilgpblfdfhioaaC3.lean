/-
  Contracts: the document's own Close and Open of crc.
-/
import Derived.Test.YtilgpblfdfhioaaC2
namespace Go.Proofs.Ytilgpblfdfhioaa
open Go.RowKit
set_option linter.unusedVariables false

theorem close_iff (l : List UInt8) (k : Nat) (hn : l.length = k + 4) : closeB (l.take k) = l ↔ leW (l.drop k) = (crcV (l.take k)).toNat := by
  have hx := (crcV (l.take k)).isLt
  have e4 : (256 : Nat) ^ 4 = 4294967296 := by decide
  have h1 : leW (lowB 4 (crcV (l.take k)).toNat) = (crcV (l.take k)).toNat := by
    rw [← leN_eq, leN_lowB, e4]
    omega
  have h2 : (l.drop k).length = 4 := by rw [List.length_drop]; omega
  constructor
  · intro h
    have h3 : closeB (l.take k) = l.take k ++ l.drop k := by rw [h, List.take_append_drop]
    have h4 := List.append_cancel_left h3
    rw [← h4, h1]
  · intro h
    have h3 : lowB 4 (crcV (l.take k)).toNat = l.drop k := leW_inj (by rw [lowB_len, h2]) (by rw [h1, h])
    rw [closeB, h3, List.take_append_drop]
theorem strOf_take (l : List UInt8) (k : Nat) : (strOf l).extract 0 k = strOf (l.take k) := by
  apply ByteArray.ext
  simp [strOf, ByteArray.data_extract]
theorem strOf_toList (l : List UInt8) : (strOf l).toList = l := by
  rw [ByteArray.toList_eq]
  rfl
theorem strOf_beq (l m : List UInt8) : ((strOf l).toList == (strOf m).toList) = (l == m) := by rw [strOf_toList, strOf_toList]
theorem strOf_ne (l m : List UInt8) (h : l ≠ m) : ((strOf l).toList == (strOf m).toList) = false := by
  rw [strOf_beq]
  exact beq_false_of_ne h
theorem strOf_eq (l m : List UInt8) (h : l = m) : ((strOf l).toList == (strOf m).toList) = true := by
  rw [strOf_beq, h]
  exact beq_self_eq_true m

set_option maxRecDepth 100000 in
set_option maxHeartbeats 1000000 in
theorem refClose_any (l : List UInt8) (n : Nat) (w : World) (hn : l.length = n) (hm : n ≤ 70368744177660) :
    Calls Try.prog 66 #[.string (strOf l)] w fun e w' => e = .returned (.string (strOf (closeB l))) ∧ Below w.heap.size w w' := by
  have hx := (crcV l).isLt
  have c1 := refCheck_any n l w hn (by omega)
  have c2 : Calls Try.prog 75 #[.int .u64 (((crcV l).toNat : Nat) : Int), .int .i64 4, .bool false] w fun e w' => e = .returned (.string (strOf (lowB 4 (crcV l).toNat))) ∧ Below w.heap.size w w' := refPut_any (crcV l).toNat 4 4 false (by omega) (by omega) (by omega) (by omega) w
  have hap := strOf_append l (lowB 4 (crcV l).toNat)
  have hs1 : (strOf l).size = n := by rw [strOf_size, hn]
  have hs2 : (strOf (lowB 4 (crcV l).toNat)).size = 4 := by rw [strOf_size, lowB_len]
  have hcl : closeB l = l ++ lowB 4 (crcV l).toNat := rfl
  rw [hcl]
  clear hcl
  generalize (crcV l).toNat = x at *
  go_enter Try.func66, Try.ntmps66
  go_wp2_with (first
    | (go_at_call 65; ((with_reducible refine c1.mono ?_); rintro e w' ⟨rfl, rfl⟩))
    | (go_at_call 75; ((with_reducible refine c2.mono ?_); rintro e w' ⟨rfl, hb⟩; have HB := hidk_ hb; clear hb)))
  go_ret
  exact ⟨rfl, HB.out⟩

set_option maxRecDepth 100000 in
set_option maxHeartbeats 1000000 in
theorem refOpen_short (l : List UInt8) (w : World) (h4 : l.length < 4) :
    Calls Try.prog 62 #[.string (strOf l)] w fun e w' => e = .returned (.tuple #[.string (strOf []), .bool false]) ∧ Below w.heap.size w w' := by
  have hs1 : (strOf l).size = l.length := by rw [strOf_size]
  have hd : decide ((l.length : Int) < 4) = true := decide_eq_true (by omega)
  go_enter Try.func62, Try.ntmps62
  go_wp2
  go_ret2
  exact ⟨rfl, Below.refl _ _⟩

set_option maxRecDepth 100000 in
set_option maxHeartbeats 1000000 in
theorem refOpen_no (l : List UInt8) (k : Nat) (w : World) (hn : l.length = k + 4) (hm : k ≤ 70368744177660) (ho : leW (l.drop k) ≠ (crcV (l.take k)).toNat) :
    Calls Try.prog 62 #[.string (strOf l)] w fun e w' => e = .returned (.tuple #[.string (strOf []), .bool false]) ∧ Below w.heap.size w w' := by
  have hs1 : (strOf l).size = k + 4 := by rw [strOf_size, hn]
  have hd : decide (((k : Int) + 4) < 4) = false := decide_eq_false (by omega)
  have hne := strOf_ne (closeB (l.take k)) l (fun e => ho ((close_iff l k hn).1 e))
  have htk := strOf_take l k
  have c1 := refClose_any (l.take k) k w (by rw [List.length_take]; omega) hm
  clear ho hn
  go_enter Try.func62, Try.ntmps62
  go_wp2_with (go_at_call 66; ((with_reducible refine c1.mono ?_); rintro e w' ⟨rfl, hb⟩; have HB := hidk_ hb; clear hb))
  go_ret2
  exact ⟨rfl, HB.out⟩

set_option maxRecDepth 100000 in
set_option maxHeartbeats 1000000 in
theorem refOpen_yes (l : List UInt8) (k : Nat) (w : World) (hn : l.length = k + 4) (hm : k ≤ 70368744177660) (ho : leW (l.drop k) = (crcV (l.take k)).toNat) :
    Calls Try.prog 62 #[.string (strOf l)] w fun e w' => e = .returned (.tuple #[.string (strOf (l.take k)), .bool true]) ∧ Below w.heap.size w w' := by
  have hs1 : (strOf l).size = k + 4 := by rw [strOf_size, hn]
  have hd : decide (((k : Int) + 4) < 4) = false := decide_eq_false (by omega)
  have hne := strOf_eq (closeB (l.take k)) l ((close_iff l k hn).2 ho)
  have htk := strOf_take l k
  have c1 := refClose_any (l.take k) k w (by rw [List.length_take]; omega) hm
  clear ho hn
  go_enter Try.func62, Try.ntmps62
  go_wp2_with (go_at_call 66; ((with_reducible refine c1.mono ?_); rintro e w' ⟨rfl, hb⟩; have HB := hidk_ hb; clear hb))
  go_ret2
  exact ⟨rfl, HB.out⟩
end Go.Proofs.Ytilgpblfdfhioaa
