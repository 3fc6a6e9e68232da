/-
  Four bytes in a row turned by exclusive or; an own slice that is written in place.
-/
import Derived.Test.YtilgpblfdfhioaaC4
import Derived.Test.YtilgpblfdfhioaaBx
namespace Go.Proofs.Ytilgpblfdfhioaa
open Go.RowKit
set_option linter.unusedVariables false

section
variable {w : World} {base : Nat} {A : Option Addr} {n c g : Nat} {l : List UInt8}
theorem Own8.block_ (h : Own8 w base (.slice A n c) l) (h0 : 0 < n) : ∃ g, A = some ⟨g, 0, none⟩ := by
  have hl := h.rd.2
  rcases h.2 with ⟨h1, h2⟩ | ⟨g, cap, cur, hv, _⟩
  · omega
  · injection hv with e1 e2 e3
    exact ⟨g, e1⟩
theorem Own8.cellz (h : Own8 w base (.slice (some ⟨g, 0, none⟩) n c) l) (j : Nat) (hj : j < n) : w.cell? ⟨g, j, none⟩ = some (.int .u8 ((l.getD j 0).toNat : Int)) := by
  have hl := h.rd.2
  subst hl
  have hc := World.ownsRow.cellAt h j (by omega)
  rw [hc]
  have := rowOf_at l j hj
  simpa using this
theorem Own8.frozenz (h : Own8 w base (.slice (some ⟨g, 0, none⟩) n c) l) (j : Nat) : w.frozen? ⟨g, j, none⟩ = false := by
  have hl := h.rd.2
  subst hl
  exact World.ownsRow.frozenAt h j
theorem Own8.put_ (h : Own8 w base (.slice (some ⟨g, 0, none⟩) n c) l) (j : Nat) (b : UInt8) : Own8 (w.setCell ⟨g, j, none⟩ (.int .u8 (b.toNat : Int))) base (.slice (some ⟨g, 0, none⟩) n c) (l.set j b) ∧ base ≤ g := by
  have hl := h.rd.2
  subst hl
  have h1 := (World.ownsRow.stored h j (.int .u8 (b.toNat : Int))).1
  have e : (rowOf l).toList.set j (.int .u8 (b.toNat : Int)) = (rowOf (l.set j b)).toList := by
    rw [← rowOf_set]
    simp
  rw [e] at h1
  refine ⟨?_, (h.lt g rfl).1⟩
  unfold Own8
  rw [List.length_set]
  exact h1
end

/-- A word's bytes, by exclusive or, one by one. -/
def yb (y i : Nat) : UInt8 := UInt8.ofNat (y / 2 ^ (8 * i) % 256)
def xorAt (l : List UInt8) (p y : Nat) : Nat → List UInt8
  | 0 => l
  | i + 1 => (xorAt l p y i).set (p + i) ((xorAt l p y i).getD (p + i) 0 ^^^ yb y i)
theorem xorAt_len (l : List UInt8) (p y i : Nat) : (xorAt l p y i).length = l.length := by
  induction i with
  | zero => rfl
  | succ i ih => rw [xorAt, List.length_set, ih]
theorem xorAt_four (P Q : List UInt8) (a b c d : UInt8) (y : Nat) :
    xorAt (P ++ [a, b, c, d] ++ Q) P.length y 4 = P ++ [a ^^^ yb y 0, b ^^^ yb y 1, c ^^^ yb y 2, d ^^^ yb y 3] ++ Q := by
  simp [xorAt, List.getD]
theorem xor_same8 (a b : UInt8) (h : a ^^^ b = a) : b = 0 := by
  have : a ^^^ (a ^^^ b) = a ^^^ a := by rw [h]
  simpa [← UInt8.xor_assoc] using this
theorem yb_zero (y i : Nat) (h : yb y i = 0) : y / 2 ^ (8 * i) % 256 = 0 := by
  have := congrArg UInt8.toNat h
  unfold yb at this
  simp at this
  omega
theorem four_of (l : List UInt8) (h : l.length = 4) : ∃ a b c d, l = [a, b, c, d] := by
  match l, h with
  | [a, b, c, d], _ => exact ⟨a, b, c, d, rfl⟩
/-- What is closed, with four bytes in a row turned, isn't opened. -/
theorem burst_shut (m : List UInt8) (p y : Nat) (hp : p + 4 ≤ (closeB m).length) (hy : y < 4294967296) (h0 : y ≠ 0) : openOk (xorAt (closeB m) p y 4) = false := by
  have hl := closeB_len m
  obtain ⟨a, b, c, d, hm⟩ := four_of (((closeB m).drop p).take 4) (by rw [List.length_take, List.length_drop]; omega)
  have hs : closeB m = (closeB m).take p ++ [a, b, c, d] ++ (closeB m).drop (p + 4) := by
    rw [← hm, List.append_assoc, ← List.drop_drop, List.take_append_drop, List.take_append_drop]
  have hpl : ((closeB m).take p).length = p := by rw [List.length_take]; omega
  have hx := xorAt_four ((closeB m).take p) ((closeB m).drop (p + 4)) a b c d y
  rw [hpl, ← hs] at hx
  rcases hb : openOk (xorAt (closeB m) p y 4) with _ | _
  · rfl
  · exfalso
    have hlen : (xorAt (closeB m) p y 4).length = m.length + 4 := by rw [xorAt_len, hl]
    have hok : leW ((xorAt (closeB m) p y 4).drop m.length) = (crcV ((xorAt (closeB m) p y 4).take m.length)).toNat := by
      by_cases h : leW ((xorAt (closeB m) p y 4).drop m.length) = (crcV ((xorAt (closeB m) p y 4).take m.length)).toNat
      · exact h
      · rw [(openOk_no hlen h).1] at hb
        cases hb
    have hcl : leW (lowB 4 (crcV m).toNat) = (crcV m).toNat := by
      have := (close_iff (closeB m) m.length (by rw [hl])).1 (by
        have e : (closeB m).take m.length = m := by unfold closeB; exact List.take_left ..
        rw [e])
      have e1 : (closeB m).take m.length = m := by unfold closeB; exact List.take_left ..
      have e2 : (closeB m).drop m.length = lowB 4 (crcV m).toNat := by unfold closeB; exact List.drop_left ..
      rwa [e1, e2] at this
    have key := crc_burst ((closeB m).take p) ((closeB m).drop (p + 4)) [a, b, c, d] [a ^^^ yb y 0, b ^^^ yb y 1, c ^^^ yb y 2, d ^^^ yb y 3] m (lowB 4 (crcV m).toNat)
      ((xorAt (closeB m) p y 4).take m.length) ((xorAt (closeB m) p y 4).drop m.length) rfl rfl (by rw [← hs]; rfl) (by rw [List.take_append_drop, hx]) (lowB_len _ _) (by rw [List.length_drop]; omega) hcl hok
    injection key with k0 key
    injection key with k1 key
    injection key with k2 key
    injection key with k3 key
    have z0 := yb_zero _ _ (xor_same8 _ _ k0.symm)
    have z1 := yb_zero _ _ (xor_same8 _ _ k1.symm)
    have z2 := yb_zero _ _ (xor_same8 _ _ k2.symm)
    have z3 := yb_zero _ _ (xor_same8 _ _ k3.symm)
    simp at z0 z1 z2 z3
    omega
theorem open_close (m : List UInt8) : openOk (closeB m) = true ∧ openD (closeB m) = m := by
  have hl := closeB_len m
  have e1 : (closeB m).take m.length = m := by unfold closeB; exact List.take_left ..
  have h := openOk_yes (l := closeB m) (k := m.length) (by rw [hl]) ((close_iff (closeB m) m.length (by rw [hl])).1 (by rw [e1]))
  rw [e1] at h
  exact h
end Go.Proofs.Ytilgpblfdfhioaa
