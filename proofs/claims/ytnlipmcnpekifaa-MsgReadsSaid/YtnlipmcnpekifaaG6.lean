/-
  codec.In: what lies behind its pointer; has, take.
-/
import Derived.Test.YtnlipmcnpekifaaG5
namespace Go.Proofs.Ytnlipmcnpekifaa
set_option maxRecDepth 100000
open Go.RowKit
set_option linter.unusedVariables false
set_option linter.unusedSimpArgs false

/-- What lies behind an In's pointer: what is left, and the first error; and its blocks. -/
def InF (w : World) (g : Nat) (l : List UInt8) (err : Int) (F : List Nat) : Prop :=
  g ∈ F ∧ ∃ A c, Bk w g 100 #[.slice A l.length c, .int .i64 err] ∧ Rd w w.heap.size A l ∧ (∀ a, A = some a → a.block ∈ F ∧ a.block ≠ g ∧ a.block < w.heap.size) ∧ l.length ≤ c ∧ c ≤ 9223372036854775807
/-- An In's cells, with its slice. -/
structure InN (w : World) (g : Nat) (l : List UInt8) (err : Int) (F : List Nat) (A : Option Addr) (n c : Nat) : Prop where
  gF : g ∈ F
  len : l.length = n
  head : Bk w g 100 #[.slice A n c, .int .i64 err]
  rd : Rd w w.heap.size A l
  far : ∀ a, A = some a → a.block ∈ F ∧ a.block ≠ g ∧ a.block < w.heap.size
  cap : n ≤ c
  most : c ≤ 9223372036854775807
section
variable {w w1 w' : World} {g n c : Nat} {l : List UInt8} {err : Int} {F G : List Nat} {A : Option Addr}
theorem InF.out (h : InF w g l err F) : ∃ A n c, InN w g l err F A n c := by
  obtain ⟨hg, A, c, h1, h2, h3, h4, h5⟩ := h
  exact ⟨A, _, c, hg, rfl, h1, h2, h3, h4, h5⟩
theorem InN.inF (h : InN w g l err F A n c) : InF w g l err F := by
  obtain ⟨h1, rfl, h2, h3, h4, h5, h6⟩ := h
  exact ⟨h1, A, c, h2, h3, h4, h5, h6⟩
theorem rd_untouched (h : Rd w w.heap.size A l) (hu : Untouched G w w1) (hd : ∀ a, A = some a → a.block ∉ G) : Rd w1 w1.heap.size A l := fun hn => by
  obtain ⟨b, off, e, hlt, hc⟩ := h hn
  have hG := hd _ e
  exact ⟨b, off, e, Nat.lt_of_lt_of_le hlt hu.size, fun j hj => (World.cell?_of_block (hu.block b hlt hG)).trans (hc j hj)⟩
theorem InN.apart (h : InN w g l err F A n c) (hu : Untouched G w w1) (hd : ∀ k ∈ F, k ∉ G) : InN w1 g l err F A n c :=
  ⟨h.gF, h.len, h.head.untouched hu (hd g h.gF), rd_untouched h.rd hu fun a e => hd _ (h.far a e).1, fun a e => ⟨(h.far a e).1, (h.far a e).2.1, Nat.lt_of_lt_of_le (h.far a e).2.2 hu.size⟩, h.cap, h.most⟩
theorem InF.apart (h : InF w g l err F) (hu : Untouched G w w1) (hd : ∀ k ∈ F, k ∉ G) : InF w1 g l err F := by
  obtain ⟨A, n, c, h⟩ := h.out
  exact (h.apart hu hd).inF
/-- The error set. -/
theorem InN.fail (h : InN w g l err F A n c) (e : Int) : InN (w.setCell ⟨g, 1, none⟩ (.int .i64 e)) g l e F A n c ∧ Untouched [g] w (w.setCell ⟨g, 1, none⟩ (.int .i64 e)) := by
  have hu : Untouched [g] w (w.setCell ⟨g, 1, none⟩ (.int .i64 e)) := Untouched.set g 1 (by simp) _
  refine ⟨⟨h.gF, h.len, h.head.set_ 1 _, rd_untouched h.rd hu fun a ea => by have := (h.far a ea).2.1; simp [this], fun a ea => ⟨(h.far a ea).1, (h.far a ea).2.1, Nat.lt_of_lt_of_le (h.far a ea).2.2 hu.size⟩, h.cap, h.most⟩, hu⟩
/-- What is left is less. -/
theorem InN.less (h : InN w g l err F A n c) (k : Nat) (hk : k ≤ n) : InN (w.setCell ⟨g, 0, none⟩ (.slice (if c = k then A else A.map (·.add k)) (n - k) (c - k))) g (l.drop k) err F (if c = k then A else A.map (·.add k)) (n - k) (c - k) ∧ Untouched [g] w (w.setCell ⟨g, 0, none⟩ (.slice (if c = k then A else A.map (·.add k)) (n - k) (c - k))) := by
  have hu : Untouched [g] w (w.setCell ⟨g, 0, none⟩ (.slice (if c = k then A else A.map (·.add k)) (n - k) (c - k))) := Untouched.set g 0 (by simp) _
  have hf : ∀ a, (if c = k then A else A.map (·.add k)) = some a → a.block ∈ F ∧ a.block ≠ g ∧ a.block < w.heap.size := by
    intro a e
    split at e
    · exact h.far a e
    · cases A with
      | none => cases e
      | some a0 =>
        have e2 : a0.add k = a := by simpa using e
        have hb : a.block = a0.block := by rw [← e2]; unfold Addr.add; split <;> rfl
        rw [hb]
        exact h.far a0 rfl
  have hr := rd_from h.rd c k (by rw [h.len]; exact hk) (by rw [h.len]; exact h.cap)
  refine ⟨⟨h.gF, by rw [List.length_drop, h.len], h.head.set_ 0 _, rd_untouched hr hu fun a ea => by have := (hf a ea).2.1; simp [this], fun a ea => ⟨(hf a ea).1, (hf a ea).2.1, Nat.lt_of_lt_of_le (hf a ea).2.2 hu.size⟩, by have := h.cap; omega, by have := h.most; omega⟩, hu⟩
end

set_option maxRecDepth 100000 in
set_option maxHeartbeats 1000000 in
theorem has_off (w : World) (g : Nat) (l : List UInt8) (err : Int) (F : List Nat) (n : Int) (h : InF w g l err F) (hn : err ≠ 0 ∨ n ≤ 0) :
    Calls Try.prog 68 #[.pointer (some ⟨g, 0, none⟩), .int .i64 n] w fun e w' => e = .returned (.bool false) ∧ w = w' := by
  obtain ⟨A, m, c, h⟩ := h.out
  have hc1 := h.head.cell 1
  simp only [List.getElem?_toArray, List.getElem?_cons_zero, List.getElem?_cons_succ] at hc1
  clear h
  by_cases he : err = 0
  · subst he
    have hd : decide (n ≤ 0) = true := decide_eq_true (by rcases hn with h | h; exact absurd rfl h; exact h)
    clear hn
    go_enter Try.func68, Try.ntmps68
    go_wp2
    go_ret
    exact ⟨rfl, rfl⟩
  · have hd : (err != 0) = true := by simpa using he
    clear hn he
    go_enter Try.func68, Try.ntmps68
    go_wp2
    go_ret
    exact ⟨rfl, rfl⟩
set_option maxRecDepth 100000 in
set_option maxHeartbeats 1000000 in
theorem has_short (w : World) (g : Nat) (l : List UInt8) (F : List Nat) (n : Nat) (h : InF w g l 0 F) (h0 : 0 < n) (hn : l.length < n) :
    Calls Try.prog 68 #[.pointer (some ⟨g, 0, none⟩), .int .i64 (n : Int)] w fun e w' => e = .returned (.bool false) ∧ InF w' g l 3 F ∧ Untouched [g] w w' := by
  obtain ⟨A, m, c, h⟩ := h.out
  rw [h.len] at hn
  have hc0 := h.head.cell 0
  have hc1 := h.head.cell 1
  have hf1 := h.head.frozen 1
  simp only [List.getElem?_toArray, List.getElem?_cons_zero, List.getElem?_cons_succ] at hc0 hc1
  have hd : decide ((n : Int) ≤ 0) = false := decide_eq_false (by omega)
  have hd2 : decide ((m : Int) < (n : Int)) = true := decide_eq_true (by omega)
  have H := hidg_ (h.fail 3)
  clear h
  go_enter Try.func68, Try.ntmps68
  go_wp2
  go_ret
  exact ⟨rfl, H.out.1.inF, H.out.2⟩
set_option maxRecDepth 100000 in
set_option maxHeartbeats 1000000 in
theorem has_yes (w : World) (g : Nat) (l : List UInt8) (F : List Nat) (n : Nat) (h : InF w g l 0 F) (h0 : 0 < n) (hn : n ≤ l.length) :
    Calls Try.prog 68 #[.pointer (some ⟨g, 0, none⟩), .int .i64 (n : Int)] w fun e w' => e = .returned (.bool true) ∧ w = w' := by
  obtain ⟨A, m, c, h⟩ := h.out
  rw [h.len] at hn
  have hc0 := h.head.cell 0
  have hc1 := h.head.cell 1
  simp only [List.getElem?_toArray, List.getElem?_cons_zero, List.getElem?_cons_succ] at hc0 hc1
  have hd : decide ((n : Int) ≤ 0) = false := decide_eq_false (by omega)
  have hd2 : decide ((m : Int) < (n : Int)) = false := decide_eq_false (by omega)
  clear h
  go_enter Try.func68, Try.ntmps68
  go_wp2
  go_ret
  exact ⟨rfl, rfl⟩
set_option maxRecDepth 100000 in
set_option maxHeartbeats 1000000 in
theorem take_any (w : World) (g : Nat) (l : List UInt8) (err : Int) (F : List Nat) (n : Nat) (h : InF w g l err F) (hn : n ≤ l.length) :
    Calls Try.prog 71 #[.pointer (some ⟨g, 0, none⟩), .int .i64 (n : Int)] w fun e w' => ∃ A, (∃ c, e = .returned (.slice A n c)) ∧ Rd w' w'.heap.size A (l.take n) ∧ InF w' g (l.drop n) err F ∧ Untouched [g] w w' := by
  obtain ⟨A, m, c, h⟩ := h.out
  rw [h.len] at hn
  have hc0 := h.head.cell 0
  have hf0 := h.head.frozen 0
  simp only [List.getElem?_toArray, List.getElem?_cons_zero, List.getElem?_cons_succ] at hc0
  have hcap := h.cap
  have hmost := h.most
  have s1 := fun W => slice_to A m c (n : Int) n rfl (by omega) W
  have s2 := fun W => slice_from A m c n hn W
  have H2 := h.less n hn
  have HR2 := rd_untouched (h.rd.take n) H2.2 fun a ea => by have := (h.far a ea).2.1; simp [this]
  generalize (if c = n then A else A.map (·.add n)) = A4 at s2 H2 HR2
  have H := hidg_ H2
  have HR := hidg_ HR2
  clear H2 HR2
  clear h
  go_enter Try.func71, Try.ntmps71
  go_wp2
  go_ret
  exact ⟨A, ⟨c, rfl⟩, HR.out, H.out.1.inF, H.out.2⟩
end Go.Proofs.Ytnlipmcnpekifaa
