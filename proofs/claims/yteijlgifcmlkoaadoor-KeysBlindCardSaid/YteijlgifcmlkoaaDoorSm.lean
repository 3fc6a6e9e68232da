/-
  SHA-256 as plain functions on lists of words and bytes, in the document's words; and words for blocks of memory known whole.
-/
import Derived.Test.YteijlgifcmlkoaaDoorS1
import Derived.Test.YteijlgifcmlkoaaDoorLp
namespace Go.Proofs.YteijlgifcmlkoaaDoor
open Go.RowKit

theorem hid_ {p : Prop} (h : p) : Hid p := h

/-! ### Blocks known whole -/
/-- Block g is just these cells of type t. -/
def Bk (w : World) (g : Nat) (t : TypeId) (cs : Array Value) : Prop := w.heap[g]? = some (.cells cs t (0, 0))
section
variable {w w' : World} {g : Nat} {t : TypeId} {cs : Array Value}
theorem Bk.lt (h : Bk w g t cs) : g < w.heap.size := by
  rcases Nat.lt_or_ge g w.heap.size with hlt | hge
  · exact hlt
  · unfold Bk at h; rw [Array.getElem?_eq_none hge] at h; cases h
theorem Bk.cell (h : Bk w g t cs) (i : Nat) : w.cell? ⟨g, i, none⟩ = cs[i]? := by
  unfold Bk at h
  exact cell_of_row w g i _ _ (0, 0) h
theorem Bk.frozen (h : Bk w g t cs) (i : Nat) : w.frozen? ⟨g, i, none⟩ = false := by
  unfold Bk at h
  simp [World.frozen?, h]
theorem Bk.new (w : World) (t : TypeId) (cs : Array Value) : Bk (w.alloc (.cells cs t)) w.heap.size t cs := heap_alloc_new w _
theorem Bk.drew (h : Bk w g t cs) : Bk w.drew g t cs := h
theorem Bk.drewN (h : Bk w g t cs) (n : Nat) : Bk (w.drewN n) g t cs := h
theorem Bk.alloc (h : Bk w g t cs) (o : Obj) : Bk (w.alloc o) g t cs := (Below.heap_alloc w o g h.lt).trans h
theorem Bk.set_ (h : Bk w g t cs) (i : Nat) (u : Value) : Bk (w.setCell ⟨g, i, none⟩ u) g t (cs.setIfInBounds i u) := by
  unfold Bk at h ⊢
  simp [World.setCell, Array.getElem?_modify, h]
theorem Bk.far (h : Bk w g t cs) {p : Addr} (hp : g ≠ p.block) (u : Value) : Bk (w.setCell p u) g t cs := (Below.heap_setCell w p u g hp).trans h
theorem Bk.below {B : Nat} (h : Bk w g t cs) (hb : Below B w w') (hg : g < B) : Bk w' g t cs := (hb.block g hg).trans h
theorem Bk.grown {row : Option Nat} (h : Bk w g t cs) (hb : w.grownBy w' row) (hg : some g ≠ row) : Bk w' g t cs := (hb.block g h.lt hg).trans h
theorem Bk.rowed (h : Bk w g t cs) (cs' : Array Value) : Bk (w.setRow g cs') g t cs' := setRow_heap w g cs cs' t _ h
theorem Bk.rowfar (h : Bk w g t cs) {g' : Nat} (hne : g ≠ g') (cs' : Array Value) : Bk (w.setRow g' cs') g t cs := (setRow_other w g' g cs' hne).trans h
end
theorem grown_row {a w : World} {g : Nat} (h : a.grownBy w (some g)) (cs : Array Value) : a.grownBy (w.setRow g cs) (some g) :=
  ⟨h.os, h.tape, h.output, by simpa using h.size, fun i hi hne => (setRow_other w g i cs (fun e => hne (by rw [e]))).trans (h.block i hi hne)⟩
theorem grown_alloc {a w : World} {row : Option Nat} (h : a.grownBy w row) (o : Obj) : a.grownBy (w.alloc o) row :=
  ⟨h.os, h.tape, h.output, Nat.le_trans h.size (by simp), fun i hi hne => (Below.heap_alloc w o i (Nat.lt_of_lt_of_le hi h.size)).trans (h.block i hi hne)⟩
theorem grown_of_below {a w w' : World} {row : Option Nat} (h : a.grownBy w row) (hb : Below w.heap.size w w') : a.grownBy w' row :=
  ⟨hb.os.trans h.os, hb.tape.trans h.tape, hb.output.trans h.output, Nat.le_trans h.size hb.size, fun i hi hne => (hb.block i (Nat.lt_of_lt_of_le hi h.size)).trans (h.block i hi hne)⟩
theorem grown_drewN {a w : World} {row : Option Nat} (h : a.grownBy w row) (n : Nat) : a.grownBy (w.drewN n) row := ⟨h.os, h.tape, h.output, h.size, h.block⟩

/-! ### Rows of words -/
theorem wordsRow_size (l : List Int) : (wordsRow l).size = l.length := by simp [wordsRow]
theorem wordsRow_at (l : List Int) (i : Nat) (h : i < l.length) : (wordsRow l)[i]? = some (.int .u32 (l.getD i 0)) := by
  simp [wordsRow, List.getD, h]
theorem wordsRow_set (l : List Int) (i : Nat) (x : Int) : (wordsRow l).setIfInBounds i (.int .u32 x) = wordsRow (l.set i x) := by
  simp [wordsRow, List.map_set]
theorem getD_setI (l : List Int) (i j : Nat) (x : Int) (hi : i < l.length) : (l.set i x).getD j 0 = if i = j then x else l.getD j 0 := by
  by_cases h : i = j
  · subst h; simp [List.getD, hi]
  · simp [List.getD, h]
def zeros (n : Nat) : List Int := List.replicate n 0
theorem zeros_len (n : Nat) : (zeros n).length = n := by simp [zeros]
theorem zeros_succ (n : Nat) : zeros (n + 1) = 0 :: zeros n := by simp [zeros, List.replicate_succ]
/-- The next place of a row whose rest is noughts. -/
theorem set_next (l : List Int) (n : Nat) (x : Int) (hn : 0 < n) : (l ++ zeros n).set l.length x = (l ++ [x]) ++ zeros (n - 1) := by
  obtain ⟨m, rfl⟩ : ∃ m, n = m + 1 := ⟨n - 1, by omega⟩
  rw [zeros_succ, List.set_append_right _ _ (Nat.le_refl _)]
  simp

def ok32 (x : Int) : Prop := 0 ≤ x ∧ x ≤ 4294967295
theorem ok32_bits (op : BinOp) (x y : Int) : ok32 (bits op .u32 x y) := bounds_u32 (wf_bits op .u32 x y)
theorem ok32_mod (x : Int) : ok32 (x % 4294967296) := ⟨by omega, by omega⟩
theorem ok32_rotn {x : Int} (k : Nat) (h : ok32 x) : ok32 (rotn k x) := rotn_bd k h.1 h.2
theorem ok32_zero : ok32 0 := ⟨by decide, by decide⟩

/-! ### The schedule -/
def sx (x y : Int) : Int := bits .xor .u32 x y
def ssig0 (x : Int) : Int := sx (sx (rotn 25 x) (rotn 14 x)) (x / 2 ^ 3)
def ssig1 (x : Int) : Int := sx (sx (rotn 15 x) (rotn 13 x)) (x / 2 ^ 10)
def bsig0 (x : Int) : Int := sx (sx (rotn 30 x) (rotn 19 x)) (rotn 10 x)
def bsig1 (x : Int) : Int := sx (sx (rotn 26 x) (rotn 21 x)) (rotn 7 x)
theorem ssig0_ok (x : Int) : ok32 (ssig0 x) := by unfold ssig0 sx; exact ok32_bits _ _ _
theorem ssig1_ok (x : Int) : ok32 (ssig1 x) := by unfold ssig1 sx; exact ok32_bits _ _ _
theorem bsig0_ok (x : Int) : ok32 (bsig0 x) := by unfold bsig0 sx; exact ok32_bits _ _ _
theorem bsig1_ok (x : Int) : ok32 (bsig1 x) := by unfold bsig1 sx; exact ok32_bits _ _ _

/-- Word k of a block. -/
def wordAt (b : List UInt8) (k : Nat) : Int := (beN ((b.drop (4 * k)).take 4) : Nat)
theorem wordAt_ok (b : List UInt8) (k : Nat) : ok32 (wordAt b k) := by
  have h := beN_lt ((b.drop (4 * k)).take 4)
  have hl : ((b.drop (4 * k)).take 4).length ≤ 4 := by rw [List.length_take]; omega
  have hp : 256 ^ ((b.drop (4 * k)).take 4).length ≤ 256 ^ 4 := Nat.pow_le_pow_right (by omega) hl
  have e4 : (256 : Nat) ^ 4 = 4294967296 := by decide
  unfold wordAt ok32
  omega
def nextW (L : List Int) : Int :=
  (ssig1 (L.getD (L.length - 2) 0) + L.getD (L.length - 7) 0 + ssig0 (L.getD (L.length - 15) 0) + L.getD (L.length - 16) 0) % 4294967296
/-- The first k words of the schedule. -/
def sched (b : List UInt8) : Nat → List Int
  | 0 => []
  | k + 1 => sched b k ++ [if k < 16 then wordAt b k else nextW (sched b k)]
theorem sched_len (b : List UInt8) (k : Nat) : (sched b k).length = k := by
  induction k with
  | zero => rfl
  | succ k ih => simp [sched, ih]
theorem sched_ok (b : List UInt8) (k : Nat) : ∀ x ∈ sched b k, ok32 x := by
  induction k with
  | zero => intro x hx; cases hx
  | succ k ih =>
    intro x hx
    rw [sched, List.mem_append] at hx
    rcases hx with hx | hx
    · exact ih x hx
    · rw [List.mem_singleton] at hx
      subst hx
      split
      · exact wordAt_ok b k
      · exact ok32_mod _
theorem getD_ok {l : List Int} (h : ∀ x ∈ l, ok32 x) (i : Nat) : ok32 (l.getD i 0) := by
  by_cases hi : i < l.length
  · have e : l.getD i 0 = l[i] := by simp [List.getD, hi]
    rw [e]
    exact h _ (List.getElem_mem hi)
  · have e : l.getD i 0 = 0 := by simp [List.getD, Nat.le_of_not_lt hi]
    rw [e]
    exact ok32_zero
end Go.Proofs.YteijlgifcmlkoaaDoor
