/-
  The standard's own example of layer 7, reckoned.
-/
import Derived.Test.YtopmngjaieobnaaEd
namespace Go.Proofs.Ytopmngjaieobnaa
def keyK (k : Nat) : List UInt8 := (List.range 32).map fun i => if i < k then UInt8.ofNat (128 + i) else 0
theorem keyK_set (k : Nat) (h : k < 32) : (keyK k).set k (UInt8.ofNat (128 + k)) = keyK (k + 1) := by
  have h3 : ∀ k : Fin 32, (keyK k.val).set k.val (UInt8.ofNat (128 + k.val)) = keyK (k.val + 1) := by decide +kernel
  exact h3 ⟨k, h⟩
theorem keyK_len (k : Nat) : (keyK k).length = 32 := by simp [keyK]
theorem keyK_zero : keyK 0 = zbytes 32 := by decide
def nonK : List UInt8 := [7, 0, 0, 0, 64, 65, 66, 67, 68, 69, 70, 71]
def withK : List UInt8 := [80, 81, 82, 83, 192, 193, 194, 195, 196, 197, 198, 199]
def textK : List UInt8 := [76, 97, 100, 105, 101, 115, 32, 97, 110, 100, 32, 71, 101, 110, 116, 108, 101, 109, 101, 110, 32, 111, 102, 32, 116, 104, 101, 32, 99, 108, 97, 115, 115, 32, 111, 102, 32, 39, 57, 57, 58, 32, 73, 102, 32, 73, 32, 99, 111, 117, 108, 100, 32, 111, 102, 102, 101, 114, 32, 121, 111, 117, 32, 111, 110, 108, 121, 32, 111, 110, 101, 32, 116, 105, 112, 32, 102, 111, 114, 32, 116, 104, 101, 32, 102, 117, 116, 117, 114, 101, 44, 32, 115, 117, 110, 115, 99, 114, 101, 101, 110, 32, 119, 111, 117, 108, 100, 32, 98, 101, 32, 105, 116, 46]
def wantK : List UInt8 := [26, 225, 11, 89, 79, 9, 226, 106, 126, 144, 46, 203, 208, 96, 6, 145]
theorem known : (sealB (keyK 32) nonK withK textK).drop 114 = wantK := by decide +kernel
theorem withK_row : rowOf withK = #[.int .u8 80, .int .u8 81, .int .u8 82, .int .u8 83, .int .u8 192, .int .u8 193, .int .u8 194, .int .u8 195, .int .u8 196, .int .u8 197, .int .u8 198, .int .u8 199] := rfl
end Go.Proofs.Ytopmngjaieobnaa
