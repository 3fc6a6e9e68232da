/-
  Words for bytes in memory: a block that is a row of bytes; a slice that reads as a list of bytes.
-/
import Derived.Test.YtibnfldddpmafaaRows
import Derived.WalkKit
import Derived.Below
import Derived.Laws.OwnMore
import Derived.Laws.Rows
import Derived.Deep.Draws
import Derived.Deep.OwnRows
import Derived.Laws.IdiomStrings
import Derived.Laws.BytesArg
namespace Go.Proofs.Ytibnfldddpmafaa
open Go.RowKit

/-- The cells of a row of bytes. -/
def rowOf (l : List UInt8) : Array Value := (l.map fun b => Value.int .u8 (b.toNat : Int)).toArray

theorem rowOf_size (l : List UInt8) : (rowOf l).size = l.length := by simp [rowOf]
theorem rowOf_get (l : List UInt8) (i : Nat) : (rowOf l)[i]? = l[i]?.map fun b => Value.int .u8 (b.toNat : Int) := by simp [rowOf]
theorem rowOf_at (l : List UInt8) (i : Nat) (h : i < l.length) : (rowOf l)[i]? = some (.int .u8 ((l.getD i 0).toNat : Int)) := by
  rw [rowOf_get, List.getElem?_eq_getElem h]
  simp [List.getD, h]
theorem rowOf_set (l : List UInt8) (i : Nat) (b : UInt8) : (rowOf l).setIfInBounds i (.int .u8 (b.toNat : Int)) = rowOf (l.set i b) := by
  simp [rowOf, List.map_set]
theorem rowOf_made (n : Nat) : madeCells #[Value.int .u8 0] n = rowOf (List.replicate n 0) := by
  apply Array.ext
  · simp [madeCells, rowOf]
  · intro i h1 h2
    simp [madeCells, rowOf, Nat.mod_one]

/-- Block g is a row of just these bytes. -/
def Blk8 (w : World) (g : Nat) (l : List UInt8) : Prop := w.heap[g]? = some (.cells (rowOf l) 5 (0, 0))

section
variable {w w' : World} {g : Nat} {l : List UInt8}
theorem Blk8.lt (h : Blk8 w g l) : g < w.heap.size := by
  rcases Nat.lt_or_ge g w.heap.size with hlt | hge
  · exact hlt
  · unfold Blk8 at h; rw [Array.getElem?_eq_none hge] at h; cases h
theorem Blk8.cell (h : Blk8 w g l) (i : Nat) (hi : i < l.length) : w.cell? ⟨g, i, none⟩ = some (.int .u8 ((l.getD i 0).toNat : Int)) := by
  unfold Blk8 at h
  rw [cell_of_row w g i _ _ (0, 0) h, rowOf_at l i hi]
theorem Blk8.frozen (h : Blk8 w g l) (i : Nat) : w.frozen? ⟨g, i, none⟩ = false := by
  unfold Blk8 at h
  simp [World.frozen?, h]
theorem Blk8.new (w : World) (l : List UInt8) : Blk8 (w.alloc (.cells (rowOf l) 5)) w.heap.size l := heap_alloc_new w _
theorem Blk8.drew (h : Blk8 w g l) : Blk8 w.drew g l := h
theorem Blk8.drewN (h : Blk8 w g l) (n : Nat) : Blk8 (w.drewN n) g l := h
theorem Blk8.alloc (h : Blk8 w g l) (o : Obj) : Blk8 (w.alloc o) g l := (Below.heap_alloc w o g h.lt).trans h
theorem Blk8.set_ (h : Blk8 w g l) (i : Nat) (b : UInt8) : Blk8 (w.setCell ⟨g, i, none⟩ (.int .u8 (b.toNat : Int))) g (l.set i b) := by
  unfold Blk8 at h ⊢
  simp [World.setCell, Array.getElem?_modify, h, rowOf_set]
theorem Blk8.far (h : Blk8 w g l) {p : Addr} (hp : g ≠ p.block) (u : Value) : Blk8 (w.setCell p u) g l := (Below.heap_setCell w p u g hp).trans h
theorem Blk8.below {B : Nat} (h : Blk8 w g l) (hb : Below B w w') (hg : g < B) : Blk8 w' g l := (hb.block g hg).trans h
end

/-- A slice at A reads as the bytes l; its memory lies below block B. A is of no account where l is empty. -/
def Rd (w : World) (B : Nat) (A : Option Addr) (l : List UInt8) : Prop :=
  0 < l.length → ∃ b off, A = some ⟨b, off, none⟩ ∧ b < B ∧ ∀ j, j < l.length → w.cell? ⟨b, off + j, none⟩ = some (.int .u8 ((l.getD j 0).toNat : Int))

section
variable {w w' : World} {B B' : Nat} {A : Option Addr} {l : List UInt8}
theorem Rd.nil : Rd w B A [] := fun h => absurd h (by simp)
theorem Rd.at_ {k : Nat} (h : Rd w B A l) (hk : k < l.length) : ∃ b off, A = some ⟨b, off, none⟩ ∧ b < B ∧ w.cell? ⟨b, off + k, none⟩ = some (.int .u8 ((l.getD k 0).toNat : Int)) := by
  obtain ⟨b, off, e, hb, hc⟩ := h (by omega)
  exact ⟨b, off, e, hb, hc k hk⟩
theorem Rd.atz {k : Nat} (h : Rd w B A l) (hk : k < l.length) : ∃ b off z, A = some ⟨b, off, none⟩ ∧ b < B ∧ w.cell? ⟨b, off + k, none⟩ = some (.int .u8 ((z : Nat) : Int)) ∧ z ≤ 255 ∧ Hid ((l.getD k 0).toNat = z) := by
  obtain ⟨b, off, e, hb, hc⟩ := h.at_ hk
  have := (l.getD k 0).toNat_lt
  exact ⟨b, off, _, e, hb, hc, by omega, rfl⟩
theorem Rd.keep (h : Rd w B A l) (hk : ∀ p : Addr, p.block < B → w'.cell? p = w.cell? p) : Rd w' B A l := fun hn => by
  obtain ⟨b, off, e, hb, hc⟩ := h hn
  exact ⟨b, off, e, hb, fun j hj => (hk _ hb).trans (hc j hj)⟩
theorem Rd.more (h : Rd w B A l) (hB : B ≤ B') : Rd w B' A l := fun hn => by
  obtain ⟨b, off, e, hb, hc⟩ := h hn
  exact ⟨b, off, e, by omega, hc⟩
theorem Rd.below (h : Rd w B A l) (hb : Below B w w') : Rd w' B A l := h.keep fun _ hp => hb.cell hp
theorem Rd.drew (h : Rd w B A l) : Rd w.drew B A l := h
theorem Rd.drewN (h : Rd w B A l) (n : Nat) : Rd (w.drewN n) B A l := h
theorem Rd.alloc (h : Rd w B A l) (hB : B ≤ w.heap.size) (o : Obj) : Rd (w.alloc o) B A l := h.keep fun p hp => World.cell?_alloc_lt w o p (by omega)
theorem Rd.setCell (h : Rd w B A l) {p : Addr} (hB : B ≤ p.block) (u : Value) : Rd (w.setCell p u) B A l :=
  h.keep fun q hq => World.cell?_setCell_other w p q u (fun e => by subst e; omega)
/-- From a row known whole: all of it, or its beginning. -/
theorem Blk8.rd {g : Nat} (h : Blk8 w g l) (hB : g < B) : Rd w B (some ⟨g, 0, none⟩) l := fun _ =>
  ⟨g, 0, rfl, hB, fun j hj => by rw [Nat.zero_add]; exact h.cell j hj⟩
theorem Rd.take (h : Rd w B A l) (n : Nat) : Rd w B A (l.take n) := fun hn => by
  have hl : (l.take n).length ≤ l.length := by simp; omega
  obtain ⟨b, off, e, hb, hc⟩ := h (by omega)
  refine ⟨b, off, e, hb, fun j hj => ?_⟩
  rw [hc j (by omega)]
  have : j < n := by simp at hj; omega
  simp [List.getD, this]
theorem Rd.drop {b off : Nat} (h : Rd w B (some ⟨b, off, none⟩) l) (n : Nat) : Rd w B (some ⟨b, off + n, none⟩) (l.drop n) := fun hn => by
  simp at hn
  obtain ⟨b', off', e, hb, hc⟩ := h (by omega)
  injection e with e
  injection e with e1 e2
  subst e1 e2
  refine ⟨b, off + n, rfl, hb, fun j hj => ?_⟩
  simp at hj
  rw [Nat.add_assoc, hc (n + j) (by omega)]
  simp [List.getD]
end

/-- The string of a list of bytes. -/
def strOf (l : List UInt8) : ByteArray := ⟨l.toArray⟩
theorem strOf_size (l : List UInt8) : (strOf l).size = l.length := by simp [strOf, ByteArray.size]
theorem strOf_inj {l m : List UInt8} : strOf l = strOf m ↔ l = m := by
  constructor
  · intro h
    have := congrArg (fun b => b.data.toList) h
    simpa [strOf] using this
  · rintro rfl; rfl

/-- 'string(b)' of a slice that reads as the bytes l. -/
theorem conv_str {w : World} {B : Nat} {A : Option Addr} {l : List UInt8} (h : Rd w B A l) (cap : Nat) :
    (convert 36 9 (.slice A l.length cap)).run Try.prog w = .ok (.string (strOf l)) w := by
  rcases A with _ | ⟨b, off, spot⟩
  · have hl : l = [] := by
      rcases Nat.eq_zero_or_pos l.length with h0 | h0
      · exact List.eq_nil_of_length_eq_zero h0
      · obtain ⟨_, _, e, _⟩ := h h0
        cases e
    subst hl
    exact run_convert_bytes_nil w 36 5 Try.underlying36 Try.underlying5 _ cap 9 Try.underlying9
  · refine run_convert_bytes_back w 36 9 5 _ cap l Try.underlying36 Try.underlying5 Try.underlying9 fun j hj => ?_
    obtain ⟨b', off', e, _, hc⟩ := h (by omega)
    injection e with e
    rw [e]
    have hp : (⟨b', off', none⟩ : Addr).add j = ⟨b', off' + j, none⟩ := by unfold Addr.add; split <;> simp_all
    rw [hp, hc j hj]
    simp [List.getD, hj]
theorem conv_strn {w : World} {B : Nat} {A : Option Addr} {l : List UInt8} (h : Rd w B A l) (n cap : Nat) (hn : l.length = n) :
    (convert 36 9 (.slice A n cap)).run Try.prog w = .ok (.string (strOf l)) w := by subst hn; exact conv_str h cap
end Go.Proofs.Ytibnfldddpmafaa
