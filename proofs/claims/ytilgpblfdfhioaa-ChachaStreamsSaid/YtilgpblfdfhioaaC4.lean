/-
  Contracts: crc.Open of all bytes, and the document's own; a beginning of what came in, copied.
-/
import Derived.Test.YtilgpblfdfhioaaC3
namespace Go.Proofs.Ytilgpblfdfhioaa
open Go.RowKit
set_option linter.unusedVariables false

/-- Is it a text with its check? What it is opened to. -/
def openOk (l : List UInt8) : Bool := decide (4 ≤ l.length) && (leW (l.drop (l.length - 4)) == (crcV (l.take (l.length - 4))).toNat)
def openD (l : List UInt8) : List UInt8 := if openOk l then l.take (l.length - 4) else []
def OpenQ (w : World) (n : Nat) (l : List UInt8) (ok : Bool) (e : Ending) (w' : World) : Prop :=
  ∃ A c, e = .returned (.tuple #[.slice A n c, .bool ok]) ∧ Rd w' w'.heap.size A l ∧ Below w.heap.size w w'
theorem openD_len (l : List UInt8) : (openD l).length ≤ l.length := by
  unfold openD
  split
  · rw [List.length_take]; omega
  · simp

theorem openOk_short {l : List UInt8} (h : l.length < 4) : openOk l = false := by
  have : decide (4 ≤ l.length) = false := decide_eq_false (by omega)
  rw [openOk, this, Bool.false_and]
theorem openOk_yes {l : List UInt8} {k : Nat} (hn : l.length = k + 4) (h : leW (l.drop k) = (crcV (l.take k)).toNat) : openOk l = true ∧ openD l = l.take k := by
  have h0 : decide (4 ≤ l.length) = true := decide_eq_true (by omega)
  have hk : l.length - 4 = k := by omega
  have h1 : openOk l = true := by rw [openOk, h0, hk, h]; simp
  exact ⟨h1, by rw [openD, h1, hk]; rfl⟩
theorem openOk_no {l : List UInt8} {k : Nat} (hn : l.length = k + 4) (h : leW (l.drop k) ≠ (crcV (l.take k)).toNat) : openOk l = false ∧ openD l = [] := by
  have h0 : decide (4 ≤ l.length) = true := decide_eq_true (by omega)
  have hk : l.length - 4 = k := by omega
  have h1 : openOk l = false := by
    rw [openOk, h0, hk]
    simpa using h
  exact ⟨h1, by rw [openD, h1]; rfl⟩

theorem open_any (A : Option Addr) (n c : Nat) (l : List UInt8) (w : World) (hn : l.length = n) (hr : Rd w w.heap.size A l) (hc : n ≤ c) (hm : n ≤ 70368744177660) (hcm : c ≤ 9223372036854775807) :
    Calls Try.prog 61 #[.slice A n c] w (OpenQ w (openD l).length (openD l) (openOk l)) := by
  by_cases h4 : n < 4
  · have h1 := openOk_short (l := l) (by omega)
    have h2 : openD l = [] := by rw [openD, h1]; rfl
    rw [h1, h2]
    exact (open_short A n c w h4).mono fun e w' hh => ⟨none, 0, hh.1, Rd.nil, hh.2⟩
  · obtain ⟨k, rfl⟩ : ∃ k, n = k + 4 := ⟨n - 4, by omega⟩
    by_cases ho : leW (l.drop k) = (crcV (l.take k)).toNat
    · obtain ⟨h1, h2⟩ := openOk_yes hn ho
      have h3 : (l.take k).length = k := by rw [List.length_take]; omega
      rw [h1, h2, h3]
      refine (open_yes A k c l w hn hr (by omega) (by omega) hcm ho).mono fun e w' hh => ?_
      obtain ⟨A2, c2, he, h5, h6⟩ := hh
      exact ⟨A2, c2, he, h5.rd.1, h6⟩
    · obtain ⟨h1, h2⟩ := openOk_no hn ho
      rw [h1, h2]
      exact (open_no A k c l w hn hr (by omega) (by omega) hcm ho).mono fun e w' hh => ⟨none, 0, hh.1, Rd.nil, hh.2⟩
theorem refOpen_any (n : Nat) (l : List UInt8) (w : World) (hn : l.length = n) (hm : n ≤ 70368744177660) :
    Calls Try.prog 62 #[.string (strOf l)] w fun e w' => e = .returned (.tuple #[.string (strOf (openD l)), .bool (openOk l)]) ∧ Below w.heap.size w w' := by
  by_cases h4 : n < 4
  · have h1 := openOk_short (l := l) (by omega)
    have h2 : openD l = [] := by rw [openD, h1]; rfl
    rw [h1, h2]
    exact refOpen_short l w (by omega)
  · obtain ⟨k, rfl⟩ : ∃ k, n = k + 4 := ⟨n - 4, by omega⟩
    by_cases ho : leW (l.drop k) = (crcV (l.take k)).toNat
    · obtain ⟨h1, h2⟩ := openOk_yes hn ho
      rw [h1, h2]
      exact refOpen_yes l k w hn (by omega) ho
    · obtain ⟨h1, h2⟩ := openOk_no hn ho
      rw [h1, h2]
      exact refOpen_no l k w hn (by omega) ho

theorem run_min2 (a d n : Nat) (hn : n = min a d) (w : World) (ts : Array TypeId) (t : TypeId) :
    (Builtin.min_ ts t #[.int .i64 (a : Int), .int .i64 (d : Int)]).run Try.prog w = .ok (.int .i64 (n : Int)) w := by
  simp [Builtin.min_, Builtin.min2]
  repeat' split
  all_goals omega
end Go.Proofs.Ytilgpblfdfhioaa
