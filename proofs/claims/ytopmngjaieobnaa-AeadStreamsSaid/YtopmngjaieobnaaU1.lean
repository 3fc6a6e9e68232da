/-
  The key's factor of Poly1305, byte by byte.
-/
import Derived.Test.YtopmngjaieobnaaP6
import Derived.Test.YtopmngjaieobnaaU0
namespace Go.Proofs.Ytopmngjaieobnaa
theorem leN_nil : leN [] = 0 := rfl
def andB (l m : List UInt8) : List UInt8 := List.zipWith (· &&& ·) l m
theorem and_256 (r s a b : Nat) (hr : r < 256) (hs : s < 256) : (r + 256 * a) &&& (s + 256 * b) = (r &&& s) + 256 * (a &&& b) := by
  have h1 : ((r + 256 * a) &&& (s + 256 * b)) % 2 ^ 8 = (r &&& s) := by
    rw [Nat.and_mod_two_pow]
    congr 1 <;> omega
  have h2 : ((r + 256 * a) &&& (s + 256 * b)) / 2 ^ 8 = (a &&& b) := by
    rw [Nat.and_div_two_pow]
    congr 1 <;> omega
  omega
theorem leN_and : ∀ l m : List UInt8, l.length = m.length → leN l &&& leN m = leN (andB l m)
  | [], [], _ => rfl
  | [], _ :: _, h => by simp at h
  | _ :: _, [], h => by simp at h
  | a :: l, b :: m, h => by
    have h2 := leN_and l m (by simpa using h)
    have e : andB (a :: l) (b :: m) = (a &&& b) :: andB l m := rfl
    rw [e, leN_cons, leN_cons, leN_cons, and_256 _ _ _ _ a.toNat_lt b.toNat_lt, h2, UInt8.toNat_and]
def maskL : List UInt8 := [255, 255, 255, 15, 252, 255, 255, 15]
def maskH : List UInt8 := [252, 255, 255, 15, 252, 255, 255, 15]
theorem maskL_val : leN maskL = 1152921487695413247 := by decide
theorem maskH_val : leN maskH = 1152921487695413244 := by decide
theorem and255 (b : UInt8) : (b &&& 255).toNat = b.toNat := by
  rw [UInt8.toNat_and]; have := b.toNat_lt; show b.toNat &&& (2 ^ 8 - 1) = _; rw [Nat.and_two_pow_sub_one_eq_mod]; omega
theorem and15 (b : UInt8) : (b &&& 15).toNat = b.toNat % 16 := by
  rw [UInt8.toNat_and]; show b.toNat &&& (2 ^ 4 - 1) = _; rw [Nat.and_two_pow_sub_one_eq_mod]
theorem and252 (b : UInt8) : (b &&& 252).toNat = b.toNat - b.toNat % 4 := by
  have h : ∀ x : Fin 256, (x.val &&& 252) = x.val - x.val % 4 := by decide +kernel
  rw [UInt8.toNat_and]; exact h ⟨b.toNat, b.toNat_lt⟩
/-- The key's factor, byte by byte. -/
def clampB (key : List UInt8) : List UInt8 := andB (key.take 16) (maskL ++ maskH)
theorem clampB_len (key : List UInt8) (h : key.length = 32) : (clampB key).length = 16 := by
  simp [clampB, andB, h, maskL, maskH]
def clI (key : List UInt8) (i : Nat) : Nat :=
  let c := (key.getD i 0).toNat
  let c := if i % 4 = 3 then c % 16 else c
  if 0 < i ∧ i % 4 = 0 then c - c % 4 else c
theorem clampB_get (key : List UInt8) (h : key.length = 32) (i : Nat) (hi : i < 16) : ((clampB key).getD i 0).toNat = clI key i := by
  have e : (clampB key).getD i 0 = (key.getD i 0) &&& ((maskL ++ maskH).getD i 0) := by
    unfold clampB andB
    have h1 : i < key.length := by omega
    have h2 : i < (maskL ++ maskH).length := hi
    simp [List.getD, List.getElem?_zipWith, hi, h1, List.getElem?_eq_getElem h2]
  rw [e]
  rcases i with _ | _ | _ | _ | _ | _ | _ | _ | _ | _ | _ | _ | _ | _ | _ | _ | i
  all_goals first
    | exact and255 _
    | exact and15 _
    | exact and252 _
    | omega
theorem and_u64 (x m : Nat) (hx : x < 18446744073709551616) (hm : m < 18446744073709551616) : bits .and .u64 (x : Int) (m : Int) = ((x &&& m : Nat) : Int) := by
  show IntKind.u64.wrap ((BitVec.ofInt 64 (x : Int) &&& BitVec.ofInt 64 (m : Int)).toNat : Int) = _
  have hl : x &&& m ≤ m := Nat.and_le_right
  rw [BitVec.toNat_and, BitVec.ofInt_natCast, BitVec.ofInt_natCast, BitVec.toNat_ofNat, BitVec.toNat_ofNat, Nat.mod_eq_of_lt (by omega : x < 2 ^ 64), Nat.mod_eq_of_lt (by omega : m < 2 ^ 64), IntKind.wrap_u64]
  omega
theorem clampL_val (l : List UInt8) (h : l.length = 8) : clampL (leN l) = leN (andB l maskL) := by
  have h8 := leN8_le l (by omega)
  have e := leN_and l maskL h
  rw [maskL_val] at e
  unfold clampL
  have h := and_u64 (leN l) 1152921487695413247 (by omega) (by omega)
  rw [show ((1152921487695413247 : Nat) : Int) = 1152921487695413247 from rfl] at h
  rw [← e, h]
  rfl
theorem clampH_val (l : List UInt8) (h : l.length = 8) : clampH (leN l) = leN (andB l maskH) := by
  have h8 := leN8_le l (by omega)
  have e := leN_and l maskH h
  rw [maskH_val] at e
  unfold clampH
  have h := and_u64 (leN l) 1152921487695413244 (by omega) (by omega)
  rw [show ((1152921487695413244 : Nat) : Int) = 1152921487695413244 from rfl] at h
  rw [← e, h]
  rfl
theorem factN_val (key : List UInt8) (h : key.length = 32) : (factN key).val = ((leN (clampB key) : Nat) : Int) := by
  have l1 : ((key.take 16).take 8).length = 8 := by simp [h]
  have l2 : ((key.take 16).drop 8).length = 8 := by simp [h]
  have e : clampB key = andB ((key.take 16).take 8) maskL ++ andB ((key.take 16).drop 8) maskH := by
    unfold clampB andB
    rw [← List.zipWith_append (by rw [l1]; rfl), List.take_append_drop]
  have l3 : (andB ((key.take 16).take 8) maskL).length = 8 := by simp [andB, h, maskL]
  unfold factN
  rw [numN_val, clampL_val _ l1, clampH_val _ l2, e, leN_append, l3, show (256 : Nat) ^ 8 = 18446744073709551616 by decide]
  omega
/-- Bytes as whole numbers. -/
def intsB (l : List UInt8) : List Int := l.map fun b => (b.toNat : Int)
theorem intsB_len (l : List UInt8) : (intsB l).length = l.length := by simp [intsB]
theorem vI_ints : ∀ l : List UInt8, vI (intsB l) = ((leN l : Nat) : Int)
  | [] => rfl
  | b :: l => by
    have h := vI_ints l
    have e : intsB (b :: l) = (b.toNat : Int) :: intsB l := rfl
    rw [e, vI, h, leN_cons]
    omega
theorem intsB_range (l : List UInt8) : rngI 255 (intsB l) := fun x hx => by
  simp [intsB] at hx
  obtain ⟨b, _, rfl⟩ := hx
  have := b.toNat_lt
  omega
theorem intsB_get (l : List UInt8) (i : Nat) : (intsB l).getD i 0 = ((l.getD i 0).toNat : Int) := by
  unfold intsB
  cases h : l[i]? with
  | none => simp [List.getD, h]
  | some x => simp [List.getD, h]
end Go.Proofs.Ytopmngjaieobnaa
