/-
  Words that door seats want, too (elsewhere: Gn): slices cut, own slices that are told less of, strings of lists, the least of two.
-/
import Derived.Test.YtegfnlnbhhmkjaaDoorCc
import Derived.Test.YtegfnlnbhhmkjaaDoorR3
namespace Go.Proofs.YtegfnlnbhhmkjaaDoor
set_option maxRecDepth 100000
open Go.RowKit
set_option linter.unusedVariables false

theorem rd_mark (W : World) (l : List UInt8) (fz : Nat × Nat) : Rd (W.alloc (.cells (rowOf l) 5 fz)) (W.heap.size + 1) (some ⟨W.heap.size, 0, none⟩) l := fun _ =>
  ⟨_, 0, rfl, Nat.lt_succ_self _, fun j hj => by
    rw [Nat.zero_add, World.cell?_alloc_mark]
    exact rowOf_at l j hj⟩
theorem Own8.lower {w : World} {b b' : Nat} {v : Value} {l : List UInt8} (h : Own8 w b v l) (hb : b' ≤ b) : Own8 w b' v l := by
  refine ⟨h.1, ?_⟩
  rcases h.2 with h0 | ⟨g, cap, cur, hv, hg, rest⟩
  · exact .inl h0
  · exact .inr ⟨g, cap, cur, hv, Nat.le_trans hb hg, rest⟩
theorem Own8.cap {w : World} {b : Nat} {A : Option Addr} {n c : Nat} {l : List UInt8} (h : Own8 w b (.slice A n c) l) : n ≤ c ∧ c ≤ 9223372036854775807 := by
  rcases h.2 with ⟨h0, _⟩ | ⟨g, cap, cur, hv, _, _, h1, h2, _⟩
  · injection h0 with e1 e2 e3
    omega
  · injection hv with e1 e2 e3
    unfold maxLen at h2
    omega
theorem NewP.from {w w1 w' : World} {n : Nat} {l : List UInt8} {e : Ending} (hb : Below w.heap.size w w1) (h : NewP w1 n l e w') : NewP w n l e w' := by
  obtain ⟨A, c, he, ho, h2⟩ := h
  exact ⟨A, c, he, ho.lower hb.size, hb.trans (h2.mono hb.size)⟩
theorem rd_from {w : World} {B : Nat} {A : Option Addr} {l : List UInt8} (h : Rd w B A l) (c k : Nat) (hk : k ≤ l.length) (hc : l.length ≤ c) : Rd w B (if c = k then A else A.map (·.add k)) (l.drop k) := by
  by_cases hck : c = k
  · rw [if_pos hck]
    have : l.drop k = [] := List.drop_eq_nil_of_le (by omega)
    rw [this]
    exact Rd.nil
  · rw [if_neg hck]
    intro hn
    have hl : 0 < l.length := by simp at hn; omega
    obtain ⟨b, off, e, _⟩ := h hl
    subst e
    have h2 := h.drop k hn
    simp only [Option.map_some]
    have hp : (⟨b, off, none⟩ : Addr).add k = ⟨b, off + k, none⟩ := by unfold Addr.add; split <;> simp_all
    rw [hp]
    exact h2
theorem strOf_take (l : List UInt8) (k : Nat) : (strOf l).extract 0 k = strOf (l.take k) := by
  apply ByteArray.ext
  simp [strOf, ByteArray.data_extract]
theorem strOf_toList (l : List UInt8) : (strOf l).toList = l := by
  rw [ByteArray.toList_eq]
  rfl
theorem strOf_beq (l m : List UInt8) : ((strOf l).toList == (strOf m).toList) = (l == m) := by rw [strOf_toList, strOf_toList]
theorem strOf_ne (l m : List UInt8) (h : l ≠ m) : ((strOf l).toList == (strOf m).toList) = false := by
  rw [strOf_beq]
  exact beq_false_of_ne h
theorem strOf_eq (l m : List UInt8) (h : l = m) : ((strOf l).toList == (strOf m).toList) = true := by
  rw [strOf_beq, h]
  exact beq_self_eq_true m
theorem run_min2 (a d n : Nat) (hn : n = min a d) (w : World) (ts : Array TypeId) (t : TypeId) :
    (Builtin.min_ ts t #[.int .i64 (a : Int), .int .i64 (d : Int)]).run Tryd.prog w = .ok (.int .i64 (n : Int)) w := by
  simp [Builtin.min_, Builtin.min2]
  repeat' split
  all_goals omega
theorem strOf_mid (l : List UInt8) (a b : Nat) : (strOf l).extract a b = strOf ((l.drop a).take (b - a)) := by
  apply ByteArray.ext
  simp only [strOf, ByteArray.data_extract]
  apply Array.ext'
  simp [List.extract_eq_take_drop]
end Go.Proofs.YtegfnlnbhhmkjaaDoor
