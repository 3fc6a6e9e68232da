/-
  Contracts: crc.Close, crc.Open; the document's own.
-/
import Derived.Test.YtilgpblfdfhioaaC1
import Derived.Test.YtilgpblfdfhioaaCc
import Derived.Test.YtilgpblfdfhioaaBk
import Derived.BigQuiet
namespace Go.Proofs.Ytilgpblfdfhioaa
open Go.RowKit
set_option linter.unusedVariables false

theorem leN_eq : ∀ l : List UInt8, leN l = leW l
  | [] => rfl
  | b :: l => by
    have h : leN (b :: l) = leN l * 256 + b.toNat := by
      unfold leN
      rw [List.reverse_cons, beN_snoc]
    rw [h, leN_eq l, leW]
    omega
/-- Bytes, and their check, the lowest first. -/
def closeB (l : List UInt8) : List UInt8 := l ++ lowB 4 (crcV l).toNat
theorem closeB_len (l : List UInt8) : (closeB l).length = l.length + 4 := by rw [closeB, List.length_append, lowB_len]
theorem Own8.lower {w : World} {b b' : Nat} {v : Value} {l : List UInt8} (h : Own8 w b v l) (hb : b' ≤ b) : Own8 w b' v l := by
  refine ⟨h.1, ?_⟩
  rcases h.2 with h0 | ⟨g, cap, cur, hv, hg, rest⟩
  · exact .inl h0
  · exact .inr ⟨g, cap, cur, hv, Nat.le_trans hb hg, rest⟩
theorem Own8.cap {w : World} {b : Nat} {A : Option Addr} {n c : Nat} {l : List UInt8} (h : Own8 w b (.slice A n c) l) : n ≤ c ∧ c ≤ 9223372036854775807 := by
  rcases h.2 with ⟨h0, _⟩ | ⟨g, cap, cur, hv, _, _, h1, h2, _⟩
  · injection h0 with e1 e2 e3
    omega
  · injection hv with e1 e2 e3
    unfold maxLen at h2
    omega
theorem NewP.from {w w1 w' : World} {n : Nat} {l : List UInt8} {e : Ending} (hb : Below w.heap.size w w1) (h : NewP w1 n l e w') : NewP w n l e w' := by
  obtain ⟨A, c, he, ho, h2⟩ := h
  exact ⟨A, c, he, ho.lower hb.size, hb.trans (h2.mono hb.size)⟩
theorem rd_from {w : World} {B : Nat} {A : Option Addr} {l : List UInt8} (h : Rd w B A l) (c k : Nat) (hk : k ≤ l.length) (hc : l.length ≤ c) : Rd w B (if c = k then A else A.map (·.add k)) (l.drop k) := by
  by_cases hck : c = k
  · rw [if_pos hck]
    have : l.drop k = [] := List.drop_eq_nil_of_le (by omega)
    rw [this]
    exact Rd.nil
  · rw [if_neg hck]
    intro hn
    have hl : 0 < l.length := by simp at hn; omega
    obtain ⟨b, off, e, _⟩ := h hl
    subst e
    have h2 := h.drop k hn
    simp only [Option.map_some]
    have hp : (⟨b, off, none⟩ : Addr).add k = ⟨b, off + k, none⟩ := by unfold Addr.add; split <;> simp_all
    rw [hp]
    exact h2

set_option maxRecDepth 100000 in
set_option maxHeartbeats 1000000 in
theorem close_any (A : Option Addr) (n c : Nat) (l : List UInt8) (w : World) (hn : l.length = n) (hr : Rd w w.heap.size A l) (hm : n ≤ 70368744177660) :
    Calls Try.prog 60 #[.slice A n c] w (NewP w (n + 4) (closeB l)) := by
  have hx := (crcV l).isLt
  have c1 := check_any A w.heap.size c n l w hn hr (by omega)
  have c2 := putLow_any (crcV l).toNat 4 4 (by omega) (by omega) (by omega) (by omega) w
  have hw1 : Below w.heap.size w ((w.alloc (.cells (rowOf (lowB 4 (crcV l).toNat)) 5)).alloc (.cells #[.slice A n c, .slice (some ⟨w.heap.size, 0, none⟩) 4 4] 22)) := ((Below.refl _ _).alloc (Nat.le_refl _) _).alloc (by simp) _
  have c3 := concat_any (w.heap.size + 1) 2 2 (n + 4) [(A, c, l), (some ⟨w.heap.size, 0, none⟩, 4, lowB 4 (crcV l).toNat)] ((w.alloc (.cells (rowOf (lowB 4 (crcV l).toNat)) 5)).alloc (.cells #[.slice A n c, .slice (some ⟨w.heap.size, 0, none⟩) 4 4] 22)) rfl (by simp [flat, lowB_len, hn])
    ⟨by simp, fun i hi => by
      have h2 : i < 2 := hi
      have hcell := (Bk.new (w.alloc (.cells (rowOf (lowB 4 (crcV l).toNat)) 5)) 22 #[.slice A n c, .slice (some ⟨w.heap.size, 0, none⟩) 4 4]).cell i
      have hsz : (w.alloc (.cells (rowOf (lowB 4 (crcV l).toNat)) 5)).heap.size = w.heap.size + 1 := by simp
      rw [hsz] at hcell
      rcases i with _ | _ | i
      · exact ⟨hcell.trans (by simp [hn]), (hr.below hw1).more hw1.size⟩
      · exact ⟨hcell.trans (by simp [lowB_len]), (((Blk8.new w _).alloc _).rd (by simp; omega))⟩
      · omega⟩ (by omega) (by omega)
  have hfl : flat [(A, c, l), (some ⟨w.heap.size, 0, none⟩, 4, lowB 4 (crcV l).toNat)] = closeB l := by simp [flat, closeB]
  rw [hfl] at c3
  have HW := hidk_ hw1
  clear hw1 hfl hr hn
  generalize (crcV l).toNat = x at *
  go_enter Try.func60, Try.ntmps60
  go_wp2_with (first
    | (go_at_call 64; ((with_reducible refine c1.mono ?_); rintro e w' ⟨rfl, rfl⟩))
    | (go_at_call 72; ((with_reducible refine c2.mono ?_); rintro e w' ⟨rfl, rfl⟩))
    | (go_at_call 100; ((with_reducible refine c3.mono ?_); rintro e w' ⟨A2, q2, rfl, ho, hb⟩; have HO := hidk_ ho; have HB := hidk_ hb; clear ho hb)))
  go_ret
  exact NewP.from HW.out ⟨A2, q2, rfl, HO.out, HB.out⟩

/-- Opened: what is ahead of the last four bytes, if these are its check. -/
def openB (l : List UInt8) : Bool := leW (l.drop (l.length - 4)) == (crcV (l.take (l.length - 4))).toNat
def OpenP (w : World) (n : Nat) (l : List UInt8) (e : Ending) (w' : World) : Prop :=
  ∃ A c, e = .returned (.tuple #[.slice A n c, .bool true]) ∧ Own8 w' w.heap.size (.slice A n c) l ∧ Below w.heap.size w w'
def ShutP (w : World) (e : Ending) (w' : World) : Prop := e = .returned (.tuple #[.slice none 0 0, .bool false]) ∧ Below w.heap.size w w'

set_option maxRecDepth 100000 in
set_option maxHeartbeats 1000000 in
theorem open_short (A : Option Addr) (n c : Nat) (w : World) (h4 : n < 4) :
    Calls Try.prog 61 #[.slice A n c] w (ShutP w) := by
  go_enter Try.func61, Try.ntmps61
  go_wp2
  go_ret2
  exact ⟨rfl, Below.refl _ _⟩

set_option maxRecDepth 100000 in
set_option maxHeartbeats 1000000 in
theorem open_no (A : Option Addr) (k c : Nat) (l : List UInt8) (w : World) (hn : l.length = k + 4) (hr : Rd w w.heap.size A l) (hc : l.length ≤ c) (hm : k ≤ 70368744177660) (hcm : c ≤ 9223372036854775807)
    (ho : leW (l.drop k) ≠ (crcV (l.take k)).toNat) : Calls Try.prog 61 #[.slice A (k + 4 : Nat) c] w (ShutP w) := by
  have r1 := hr.take k
  have r2 := rd_from hr c k (by omega) hc
  rw [hn] at hc
  have l1 : (l.take k).length = k := by rw [List.length_take]; omega
  have l2 : (l.drop k).length = 4 := by rw [List.length_drop]; omega
  have s1 := fun W => slice_to A (k + 4) c (k : Int) k rfl (by omega) W
  have s2 := fun W => slice_from A (k + 4) c k (by omega) W
  rw [show k + 4 - k = 4 by omega] at s2
  have b1 := leW_lt (l.drop k)
  rw [l2] at b1
  have e4 : (256 : Nat) ^ 4 = 4294967296 := by decide
  rw [e4] at b1
  have b2 := (crcV (l.take k)).isLt
  have b3 : (leW (l.drop k) : Int) ≠ ((crcV (l.take k)).toNat : Int) := by omega
  have c1 := fun W (h : Rd W w.heap.size (if c = k then A else A.map (·.add k)) (l.drop k)) => low32_yes (if c = k then A else A.map (·.add k)) w.heap.size (c - k) (l.drop k) W l2 h
  have c2 := fun W (h : Rd W w.heap.size A (l.take k)) => check_any A w.heap.size c k (l.take k) W l1 h (by omega)
  rw [leN_eq] at c1
  generalize (if c = k then A else A.map (·.add k)) = A2 at *
  generalize leW (l.drop k) = x at *
  generalize (crcV (l.take k)).toNat = y at *
  have R1 := hidk_ r1
  have R2 := hidk_ r2
  clear r1 r2 hr hn l1 l2 e4 ho
  go_enter Try.func61, Try.ntmps61
  go_wp2
  go_quiet (fail)
  have d1 := c1 _ (R2.out.drewN nq)
  have d2 := c2 _ (R1.out.drewN nq)
  clear c1 c2 s1 s2
  have HB := hidk_ (below_drewN (Below.refl w.heap.size w) nq)
  generalize w.drewN nq = wd at *
  have b4 : ((x : Int) == (y : Int)) = false := by simpa using b3
  go_wp2_with (first
    | (go_at_call 101; ((with_reducible refine d1.mono ?_); rintro e w' ⟨rfl, rfl⟩))
    | (go_at_call 64; ((with_reducible refine d2.mono ?_); rintro e w' ⟨rfl, rfl⟩)))
  go_ret2
  exact ⟨rfl, HB.out⟩

set_option maxRecDepth 100000 in
set_option maxHeartbeats 1000000 in
theorem open_yes (A : Option Addr) (k c : Nat) (l : List UInt8) (w : World) (hn : l.length = k + 4) (hr : Rd w w.heap.size A l) (hc : l.length ≤ c) (hm : k ≤ 70368744177660) (hcm : c ≤ 9223372036854775807)
    (ho : leW (l.drop k) = (crcV (l.take k)).toNat) : Calls Try.prog 61 #[.slice A (k + 4 : Nat) c] w (OpenP w k (l.take k)) := by
  have r1 := hr.take k
  have r2 := rd_from hr c k (by omega) hc
  rw [hn] at hc
  have l1 : (l.take k).length = k := by rw [List.length_take]; omega
  have l2 : (l.drop k).length = 4 := by rw [List.length_drop]; omega
  have s1 := fun W => slice_to A (k + 4) c (k : Int) k rfl (by omega) W
  have s2 := fun W => slice_from A (k + 4) c k (by omega) W
  rw [show k + 4 - k = 4 by omega] at s2
  have b1 := leW_lt (l.drop k)
  rw [l2] at b1
  have e4 : (256 : Nat) ^ 4 = 4294967296 := by decide
  rw [e4] at b1
  have b2 := (crcV (l.take k)).isLt
  rw [ho] at b1
  have c1 := fun W (h : Rd W w.heap.size (if c = k then A else A.map (·.add k)) (l.drop k)) => low32_yes (if c = k then A else A.map (·.add k)) w.heap.size (c - k) (l.drop k) W l2 h
  have L1 := hidk_ l1
  have c2 := fun W (h : Rd W w.heap.size A (l.take k)) => check_any A w.heap.size c k (l.take k) W l1 h (by omega)
  rw [leN_eq, ho] at c1
  generalize (if c = k then A else A.map (·.add k)) = A2 at *
  clear ho
  generalize (crcV (l.take k)).toNat = y at *
  have R1 := hidk_ r1
  have R2 := hidk_ r2
  clear r1 r2 hr hn l1 l2 e4
  go_enter Try.func61, Try.ntmps61
  go_wp2
  go_quiet (fail)
  have d1 := c1 _ (R2.out.drewN nq)
  have d2 := c2 _ (R1.out.drewN nq)
  have d3 := clone_any A k c (l.take k) (w.drewN nq) L1.out (R1.out.drewN nq) (by omega)
  clear c1 c2 s1 s2
  have HB := hidk_ (below_drewN (Below.refl w.heap.size w) nq)
  have hsz : (w.drewN nq).heap.size = w.heap.size := rfl
  have HZ := hidk_ hsz
  clear hsz
  generalize w.drewN nq = wd at *
  go_wp2_with (first
    | (go_at_call 101; ((with_reducible refine d1.mono ?_); rintro e w' ⟨rfl, rfl⟩))
    | (go_at_call 64; ((with_reducible refine d2.mono ?_); rintro e w' ⟨rfl, rfl⟩))
    | (go_at_call 96; ((with_reducible refine d3.mono ?_); rintro e w' ⟨A3, q3, rfl, ho, hb⟩; have HO := hidk_ ho; have HB3 := hidk_ hb; clear ho hb)))
  go_ret2
  have ho := HO.out
  have hb := HB3.out
  rw [HZ.out] at ho hb
  exact ⟨A3, q3, rfl, ho, HB.out.trans hb⟩
end Go.Proofs.Ytilgpblfdfhioaa
