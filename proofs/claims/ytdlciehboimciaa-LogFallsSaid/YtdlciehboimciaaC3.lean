/-
  Contracts: the document's own Close and Open of crc.
-/
import Derived.Test.YtdlciehboimciaaCC
namespace Go.Proofs.Ytdlciehboimciaa
set_option maxRecDepth 100000
open Go.RowKit
set_option linter.unusedVariables false

theorem close_iff (l : List UInt8) (k : Nat) (hn : l.length = k + 4) : closeB (l.take k) = l ↔ leW (l.drop k) = (crcV (l.take k)).toNat := by
  have hx := (crcV (l.take k)).isLt
  have e4 : (256 : Nat) ^ 4 = 4294967296 := by decide
  have h1 : leW (lowB 4 (crcV (l.take k)).toNat) = (crcV (l.take k)).toNat := by
    rw [← leN_eq, leN_lowB, e4]
    omega
  have h2 : (l.drop k).length = 4 := by rw [List.length_drop]; omega
  constructor
  · intro h
    have h3 : closeB (l.take k) = l.take k ++ l.drop k := by rw [h, List.take_append_drop]
    have h4 := List.append_cancel_left h3
    rw [← h4, h1]
  · intro h
    have h3 : lowB 4 (crcV (l.take k)).toNat = l.drop k := leW_inj (by rw [lowB_len, h2]) (by rw [h1, h])
    rw [closeB, h3, List.take_append_drop]

set_option maxRecDepth 100000 in
set_option maxHeartbeats 1000000 in
theorem refClose_any (l : List UInt8) (n : Nat) (w : World) (hn : l.length = n) (hm : n ≤ 70368744177660) :
    Calls Try.prog 39 #[.string (strOf l)] w fun e w' => e = .returned (.string (strOf (closeB l))) ∧ Below w.heap.size w w' := by
  have hx := (crcV l).isLt
  have c1 := refCheck_any n l w hn (by omega)
  have c2 : Calls Try.prog 57 #[.int .u64 (((crcV l).toNat : Nat) : Int), .int .i64 4, .bool false] w fun e w' => e = .returned (.string (strOf (lowB 4 (crcV l).toNat))) ∧ Below w.heap.size w w' := refPut_any (crcV l).toNat 4 4 false (by omega) (by omega) (by omega) (by omega) w
  have hap := strOf_append l (lowB 4 (crcV l).toNat)
  have hs1 : (strOf l).size = n := by rw [strOf_size, hn]
  have hs2 : (strOf (lowB 4 (crcV l).toNat)).size = 4 := by rw [strOf_size, lowB_len]
  have hcl : closeB l = l ++ lowB 4 (crcV l).toNat := rfl
  rw [hcl]
  clear hcl
  generalize (crcV l).toNat = x at *
  go_enter Try.func39, Try.ntmps39
  go_wp2_with (first
    | (go_at_call 58; ((with_reducible refine c1.mono ?_); rintro e w' ⟨rfl, rfl⟩))
    | (go_at_call 57; ((with_reducible refine c2.mono ?_); rintro e w' ⟨rfl, hb⟩; have HB := hidk_ hb; clear hb)))
  go_ret
  exact ⟨rfl, HB.out⟩

end Go.Proofs.Ytdlciehboimciaa
