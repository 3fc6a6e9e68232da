/-
  Words in a row; ChaCha20 as plain mathematics.
-/
import Derived.Test.YtopmngjaieobnaaBm
import Derived.Test.YtopmngjaieobnaaBk
import Derived.Test.YtopmngjaieobnaaBw
namespace Go.Proofs.Ytopmngjaieobnaa
open Go.RowKit
set_option linter.unusedVariables false

/-- The cells of a row of words. -/
def rowW (l : List Int) : Array Value := (l.map (Value.int .u32)).toArray
theorem rowW_size (l : List Int) : (rowW l).size = l.length := by simp [rowW]
theorem rowW_at (l : List Int) (i : Nat) (h : i < l.length) : (rowW l)[i]? = some (.int .u32 (l.getD i 0)) := by
  simp [rowW, List.getD, h]
theorem rowW_set (l : List Int) (i : Nat) (x : Int) : (rowW l).setIfInBounds i (.int .u32 x) = rowW (l.set i x) := by
  simp [rowW, List.map_set]
theorem rowW_one (l : List Int) : (rowW l).all (·.oneCell') = true := by
  rw [Array.all_eq_true_iff_forall_mem]
  intro v hv
  simp [rowW] at hv
  obtain ⟨x, _, rfl⟩ := hv
  rfl
def ok32 (x : Int) : Prop := 0 ≤ x ∧ x ≤ 4294967295
theorem ok32_bits (op : BinOp) (x y : Int) : ok32 (bits op .u32 x y) := bounds_u32 (wf_bits op .u32 x y)
theorem ok32_mod (x : Int) : ok32 (x % 4294967296) := ⟨by omega, by omega⟩
theorem ok32_rotn {x : Int} (k : Nat) (h : ok32 x) : ok32 (rotn k x) := rotn_bd k h.1 h.2
theorem ok32_zero : ok32 0 := ⟨by decide, by decide⟩
def okL (l : List Int) : Prop := ∀ x ∈ l, ok32 x
theorem getD_okW {l : List Int} (h : okL l) (i : Nat) : ok32 (l.getD i 0) := by
  by_cases hi : i < l.length
  · have e : l.getD i 0 = l[i] := by simp [List.getD, hi]
    rw [e]
    exact h _ (List.getElem_mem hi)
  · have e : l.getD i 0 = 0 := by simp [List.getD, Nat.le_of_not_lt hi]
    rw [e]
    exact ok32_zero
theorem okL_set {l : List Int} (h : okL l) (i : Nat) {x : Int} (hx : ok32 x) : okL (l.set i x) := by
  intro y hy
  rcases List.mem_or_eq_of_mem_set hy with h1 | h1
  · exact h y h1
  · rw [h1]; exact hx

/-- One word, and another one added; one, by exclusive or with another one, turned. -/
def addAt (l : List Int) (i j : Nat) : List Int := l.set i ((l.getD i 0 + l.getD j 0) % 4294967296)
def turnAt (l : List Int) (i j n : Nat) : List Int := l.set i (rotn n (bits .xor .u32 (l.getD i 0) (l.getD j 0)))
theorem addAt_len (l : List Int) (i j : Nat) : (addAt l i j).length = l.length := by simp [addAt]
theorem turnAt_len (l : List Int) (i j n : Nat) : (turnAt l i j n).length = l.length := by simp [turnAt]
theorem addAt_ok {l : List Int} (h : okL l) (i j : Nat) : okL (addAt l i j) := okL_set h i (ok32_mod _)
theorem turnAt_ok {l : List Int} (h : okL l) (i j n : Nat) : okL (turnAt l i j n) := okL_set h i (ok32_rotn n (ok32_bits _ _ _))
/-- Four of the words stirred. -/
def quarterL (l : List Int) (a b c d : Nat) : List Int :=
  turnAt (addAt (turnAt (addAt (turnAt (addAt (turnAt (addAt l a b) d a 16) c d) b c 12) a b) d a 8) c d) b c 7
theorem quarterL_len (l : List Int) (a b c d : Nat) : (quarterL l a b c d).length = l.length := by simp [quarterL, turnAt_len, addAt_len]
theorem quarterL_ok {l : List Int} (h : okL l) (a b c d : Nat) : okL (quarterL l a b c d) :=
  turnAt_ok (addAt_ok (turnAt_ok (addAt_ok (turnAt_ok (addAt_ok (turnAt_ok (addAt_ok h _ _) _ _ _) _ _) _ _ _) _ _) _ _ _) _ _) _ _ _
/-- By columns, k of them; then by diagonals, k of them. -/
def colsL (l : List Int) : Nat → List Int
  | 0 => l
  | k + 1 => quarterL (colsL l k) k (4 + k) (8 + k) (12 + k)
def diagsL (l : List Int) : Nat → List Int
  | 0 => l
  | k + 1 => quarterL (diagsL l k) k (4 + (k + 1) % 4) (8 + (k + 2) % 4) (12 + (k + 3) % 4)
def roundsL (l : List Int) : Nat → List Int
  | 0 => l
  | k + 1 => diagsL (colsL (roundsL l k) 4) 4
theorem colsL_len (l : List Int) (k : Nat) : (colsL l k).length = l.length := by
  induction k with
  | zero => rfl
  | succ k ih => rw [colsL, quarterL_len, ih]
theorem diagsL_len (l : List Int) (k : Nat) : (diagsL l k).length = l.length := by
  induction k with
  | zero => rfl
  | succ k ih => rw [diagsL, quarterL_len, ih]
theorem roundsL_len (l : List Int) (k : Nat) : (roundsL l k).length = l.length := by
  induction k with
  | zero => rfl
  | succ k ih => rw [roundsL, diagsL_len, colsL_len, ih]
theorem colsL_ok {l : List Int} (h : okL l) (k : Nat) : okL (colsL l k) := by
  induction k with
  | zero => exact h
  | succ k ih => exact quarterL_ok ih _ _ _ _
theorem diagsL_ok {l : List Int} (h : okL l) (k : Nat) : okL (diagsL l k) := by
  induction k with
  | zero => exact h
  | succ k ih => exact quarterL_ok ih _ _ _ _
theorem roundsL_ok {l : List Int} (h : okL l) (k : Nat) : okL (roundsL l k) := by
  induction k with
  | zero => exact h
  | succ k ih => exact diagsL_ok (colsL_ok ih 4) 4

/-- Word k of bytes, the lowest first. -/
def leWord (b : List UInt8) (k : Nat) : Int := (leN ((b.drop (4 * k)).take 4) : Nat)
theorem leWord_ok (b : List UInt8) (k : Nat) : ok32 (leWord b k) := by
  have h := leN_lt ((b.drop (4 * k)).take 4)
  have hl : ((b.drop (4 * k)).take 4).length ≤ 4 := by rw [List.length_take]; omega
  have hp : 256 ^ ((b.drop (4 * k)).take 4).length ≤ 256 ^ 4 := Nat.pow_le_pow_right (by omega) hl
  have e4 : (256 : Nat) ^ 4 = 4294967296 := by decide
  unfold leWord ok32
  omega
/-- Words from i on, k of them, by bytes. -/
def fillL (l : List Int) (i : Nat) (b : List UInt8) : Nat → List Int
  | 0 => l
  | k + 1 => (fillL l i b k).set (i + k) (leWord b k)
theorem fillL_len (l : List Int) (i : Nat) (b : List UInt8) (k : Nat) : (fillL l i b k).length = l.length := by
  induction k with
  | zero => rfl
  | succ k ih => rw [fillL, List.length_set, ih]
theorem fillL_ok {l : List Int} (h : okL l) (i : Nat) (b : List UInt8) (k : Nat) : okL (fillL l i b k) := by
  induction k with
  | zero => exact h
  | succ k ih => exact okL_set ih _ (leWord_ok b k)
def sigmaL : List Int := [1634760805, 857760878, 2036477234, 1797285236, 0, 0, 0, 0, 0, 0, 0, 0, 0, 0, 0, 0]
theorem sigmaL_ok : okL sigmaL := by
  have h : sigmaL.all (fun x => decide (0 ≤ x) && decide (x ≤ 4294967295)) = true := by decide +kernel
  intro x hx
  have := (List.all_eq_true.1 h) x hx
  simp only [Bool.and_eq_true, decide_eq_true_eq] at this
  exact this
/-- The words of a key, a counter, a nonce. -/
def stateL (key : List UInt8) (counter : Int) (nonce : List UInt8) : List Int := fillL ((fillL sigmaL 4 key 8).set 12 counter) 13 nonce 3
theorem stateL_len (key : List UInt8) (counter : Int) (nonce : List UInt8) : (stateL key counter nonce).length = 16 := by
  rw [stateL, fillL_len, List.length_set, fillL_len]; rfl
theorem stateL_ok (key : List UInt8) {counter : Int} (nonce : List UInt8) (hc : ok32 counter) : okL (stateL key counter nonce) :=
  fillL_ok (okL_set (fillL_ok sigmaL_ok 4 key 8) 12 hc) 13 nonce 3
/-- The first k words' bytes of a block. -/
def outB (s v : List Int) (k : Nat) : List UInt8 := (List.range k).flatMap fun i => lowB 4 ((v.getD i 0 + s.getD i 0) % 4294967296).toNat
theorem outB_succ (s v : List Int) (k : Nat) : outB s v (k + 1) = outB s v k ++ lowB 4 ((v.getD k 0 + s.getD k 0) % 4294967296).toNat := by
  simp [outB, List.range_succ]
theorem outB_len (s v : List Int) (k : Nat) : (outB s v k).length = 4 * k := by
  induction k with
  | zero => rfl
  | succ k ih => rw [outB_succ, List.length_append, ih, lowB_len]; omega
/-- A block of the stream. -/
def blockB (key : List UInt8) (counter : Int) (nonce : List UInt8) : List UInt8 :=
  outB (stateL key counter nonce) (roundsL (stateL key counter nonce) 10) 16
theorem blockB_len (key : List UInt8) (counter : Int) (nonce : List UInt8) : (blockB key counter nonce).length = 64 := outB_len _ _ 16
end Go.Proofs.Ytopmngjaieobnaa
