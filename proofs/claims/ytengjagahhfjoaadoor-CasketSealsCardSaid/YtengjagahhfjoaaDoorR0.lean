/-
  The reference's SHA-256, its mathematics: blocks one behind the other, and the words behind them.
-/
import Derived.Test.YtengjagahhfjoaaDoorSS
namespace Go.Proofs.YtengjagahhfjoaaDoor
open Go.RowKit

/-- The words behind j whole blocks. -/
def over (P : List UInt8) : Nat → S8
  | 0 => startS
  | j + 1 => comp (over P j) ((P.drop (64 * j)).take 64)
theorem over_ok (P : List UInt8) : ∀ j, (over P j).ok
  | 0 => startS_ok
  | _ + 1 => comp_ok _ _
theorem absorb_over (P : List UInt8) : ∀ j, 64 * j ≤ P.length → ∃ blk, start.absorb (P.take (64 * j)) = ⟨over P j, blk, 0⟩ ∧ blk.length = 64
  | 0, _ => ⟨zbytes 64, rfl, zbytes_len 64⟩
  | j + 1, h => by
    obtain ⟨blk, e, hb⟩ := absorb_over P j (by omega)
    have hl : ((P.drop (64 * j)).take 64).length = 64 := by rw [List.length_take, List.length_drop]; omega
    refine ⟨laid blk 0 ((P.drop (64 * j)).take 64), ?_, by rw [laid_len (by rw [hl, hb]; omega), hb]⟩
    have hp : P.take (64 * (j + 1)) = P.take (64 * j) ++ (P.drop (64 * j)).take 64 := by
      rw [show 64 * (j + 1) = 64 * j + 64 by omega, List.take_add]
    have hlaid : ∀ q : List UInt8, q.length = 64 → laid blk 0 q = q := fun q hq => by
      unfold laid
      rw [List.take_zero, List.nil_append, hq, List.drop_of_length_le (by omega), List.append_nil]
    rw [hp, Msg.absorb_append, e, absorb_full _ _ hb (by rw [hl]; omega) (by rw [hl])]
    simp only
    rw [hlaid _ hl]
    rfl
theorem sha_over (l P : List UInt8) (nb : Nat) (hP : l ++ [128] ++ List.replicate (gap (l.length % 64)) 0 ++ highB 8 (8 * l.length) = P) (hl : P.length = 64 * nb) : sha l = digestOf (over P nb) := by
  have e : l ++ tail (l.length % 64) l.length = P.take (64 * nb) := by
    rw [List.take_of_length_le (by omega), ← hP]
    unfold tail
    simp [List.append_assoc]
  obtain ⟨blk, h, _⟩ := absorb_over P nb (by omega)
  unfold sha
  rw [e, h]
/-- The next word, in the order in which the reference adds. -/
theorem nextW_ref (L : List Int) (a b c d : Int) (ha : L.getD (L.length - 16) 0 = a) (hb : L.getD (L.length - 7) 0 = b) (hc : L.getD (L.length - 15) 0 = c) (hd : L.getD (L.length - 2) 0 = d) :
    (a + ssig0 c + b + ssig1 d) % 4294967296 = nextW L := by
  unfold nextW
  rw [ha, hb, hc, hd]
  congr 1
  omega
end Go.Proofs.YtengjagahhfjoaaDoor
