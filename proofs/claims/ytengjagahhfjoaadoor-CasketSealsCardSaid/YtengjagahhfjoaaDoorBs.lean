/-
  Contract: bits.Same.
-/
import Derived.Test.YtengjagahhfjoaaDoorBx
namespace Go.Proofs.YtengjagahhfjoaaDoor
open Go.RowKit
set_option linter.unusedVariables false

theorem or8 (a b : UInt8) : bits .or .u8 (a.toNat : Int) (b.toNat : Int) = (((a ||| b).toNat : Nat) : Int) := by
  have ha := a.toNat_lt
  have hb := b.toNat_lt
  have hx : a.toNat ||| b.toNat < 2 ^ 8 := Nat.or_lt_two_pow (by omega) (by omega)
  have h1 : (BitVec.ofInt 8 (a.toNat : Int)).toNat = a.toNat := by
    rw [BitVec.ofInt_natCast, BitVec.toNat_ofNat]; exact Nat.mod_eq_of_lt (by omega)
  have h2 : (BitVec.ofInt 8 (b.toNat : Int)).toNat = b.toNat := by
    rw [BitVec.ofInt_natCast, BitVec.toNat_ofNat]; exact Nat.mod_eq_of_lt (by omega)
  show IntKind.u8.wrap ((BitVec.ofInt 8 (a.toNat : Int) ||| BitVec.ofInt 8 (b.toNat : Int)).toNat : Int) = _
  rw [BitVec.toNat_or, h1, h2, UInt8.toNat_or]
  simp [IntKind.wrap, IntKind.signed, IntKind.bits]
  omega
theorem or_zero8 (a b : UInt8) : (a ||| b) = 0 ↔ a = 0 ∧ b = 0 := by
  constructor
  · intro h
    have h' := congrArg UInt8.toNat h
    rw [UInt8.toNat_or] at h'
    have h2 : a.toNat ||| b.toNat = 0 := h'
    have h3 := Nat.or_eq_zero_iff.1 h2
    exact ⟨UInt8.toNat_inj.1 (by simpa using h3.1), UInt8.toNat_inj.1 (by simpa using h3.2)⟩
  · rintro ⟨rfl, rfl⟩; rfl
theorem xor_zero8 (a b : UInt8) : (a ^^^ b) = 0 ↔ a = b := UInt8.xor_eq_zero_iff
theorem ne_zero8 {u : UInt8} (h : ¬ u = 0) : ¬ ((u.toNat : Nat) : Int) = 0 := fun e => h (UInt8.toNat_inj.1 (by simpa using e))
theorem beq_nat (x y : Nat) : ((x : Int) == (y : Int)) = decide (x = y) := by
  rw [Bool.eq_iff_iff]
  simp
  omega
/-- All that is unlike in the first k bytes, or'ed. -/
def unlike (l m : List UInt8) : Nat → UInt8
  | 0 => 0
  | k + 1 => unlike l m k ||| (l.getD k 0 ^^^ m.getD k 0)
theorem unlike_zero (l m : List UInt8) : ∀ k, k ≤ l.length → k ≤ m.length → (unlike l m k = 0 ↔ l.take k = m.take k)
  | 0, _, _ => by simp [unlike]
  | k + 1, h1, h2 => by
    have ih := unlike_zero l m k (by omega) (by omega)
    have e1 : l.getD k 0 = l[k]'(by omega) := by simp [List.getD, List.getElem?_eq_getElem (show k < l.length by omega)]
    have e2 : m.getD k 0 = m[k]'(by omega) := by simp [List.getD, List.getElem?_eq_getElem (show k < m.length by omega)]
    rw [unlike, or_zero8, xor_zero8, ih, List.take_succ_eq_append_getElem (by omega), List.take_succ_eq_append_getElem (by omega), e1, e2]
    constructor
    · rintro ⟨h, h'⟩; rw [h, h']
    · intro h
      have := List.append_inj' h rfl
      exact ⟨this.1, by simpa using this.2⟩
theorem same_of (l m : List UInt8) (n : Nat) (hn : n = min l.length m.length) : ((decide (unlike l m n = 0)) && decide (l.length = m.length)) = (l == m) := by
  have h := unlike_zero l m n (by omega) (by omega)
  by_cases he : l.length = m.length
  · have h1 : l.take n = l := List.take_of_length_le (by omega)
    have h2 : m.take n = m := List.take_of_length_le (by omega)
    rw [h1, h2] at h
    by_cases hq : l = m
    · have h0 := h.2 hq
      rw [h0, hq]
      simp
    · have : ¬ unlike l m n = 0 := fun e => hq (h.1 e)
      simp [he, this, hq]
  · have hq : ¬ l = m := fun e => he (by rw [e])
    simp [he, hq]

set_option maxRecDepth 100000 in
set_option maxHeartbeats 1000000 in
theorem same_any (A B : Option Addr) (c d : Nat) (l m : List UInt8) (a b : Nat) (w : World) (hla : l.length = a) (hmb : m.length = b) (hr : Rd w w.heap.size A l) (hs : Rd w w.heap.size B m) (ha : a ≤ 9223372036854775807) (hb : b ≤ 9223372036854775807) :
    Calls Tryd.prog 26 #[.slice A a c, .slice B b d] w fun e w' => e = .returned (.bool (l == m)) ∧ Below w.heap.size w w' := by
  obtain ⟨n, hn⟩ : ∃ n, n = min a b := ⟨_, rfl⟩
  have HN : Hid (n = min l.length m.length) := by rw [hla, hmb]; exact hn
  have HSM := hidx_ (same_of l m n HN.out)
  rw [hla, hmb] at HSM
  have HR : Hid (Rd w w.heap.size A l) := hr
  have HS : Hid (Rd w w.heap.size B m) := hs
  have HLA : Hid (l.length = a) := hla
  have HMB : Hid (m.length = b) := hmb
  have hna : n ≤ a := by omega
  have hnb : n ≤ b := by omega
  clear hr hs hla hmb
  rcases Nat.lt_or_ge b a with hba | hba
  case' inl => obtain rfl : n = b := by omega
  case' inr => obtain rfl : n = a := by omega
  all_goals
    clear hn
    go_enter Tryd.func26, Tryd.ntmps26
    go_wp2
    go_loopw [5, 6, 12] (fun u _ i wr => ∃ k : Nat, k ≤ n ∧ i = .int .i64 k ∧ u = .int .u8 (((unlike l m k).toNat : Nat) : Int) ∧ Below w.heap.size w wr) (fun _ _ i _ => n - (intOf i).toNat)
    case atStart => exact ⟨0, Nat.zero_le _, rfl, rfl, Below.refl _ _⟩
    case round =>
      obtain ⟨k, hk, rfl, rfl, hb⟩ := hrel
      have HB := hidx_ hb
      clear hb
      by_cases hlt : k < n
      · obtain ⟨b1, o1, z1, rfl, hb1, hc1, hz1, hx1⟩ := (HR.out.below HB.out).atz (k := k) (by rw [HLA.out]; omega)
        obtain ⟨b2, o2, z2, rfl, hb2, hc2, hz2, hx2⟩ := (HS.out.below HB.out).atz (k := k) (by rw [HMB.out]; omega)
        have HX : Hid (bits .or .u8 (((unlike l m k).toNat : Nat) : Int) (bits .xor .u8 (z1 : Int) (z2 : Int)) = (((unlike l m (k + 1)).toNat : Nat) : Int)) := by rw [← hx1.out, ← hx2.out, xor8]; exact or8 _ _
        obtain ⟨u, hu⟩ : ∃ u : Nat, Hid ((unlike l m k).toNat = u) := ⟨_, rfl⟩
        rw [hu.out] at HX ⊢
        have t0 : (0 : Int) ≤ (k : Int) := by omega
        first | have ta : (k : Int) < (a : Int) := by omega | skip
        first | have tb : (k : Int) < (b : Int) := by omega | skip
        have tn : (k : Int) < (n : Int) := by omega
        go_wp2
        go_quiet (fail)
        go_wp2
        go_roundw
        case rel => exact ⟨k + 1, by omega, by go_num, by rw [HX.out], below_drewN HB.out nq⟩
        case measure => simp [intOf]; omega
      · obtain rfl : k = n := by omega
        by_cases h0 : unlike l m k = 0
        · rw [h0] at HSM ⊢
          have hz : (((0 : UInt8).toNat : Nat) : Int) = 0 := rfl
          rw [hz]
          go_wp2
          rw [beq_nat, ← HSM.out]
          go_ret
          exact ⟨by simp, HB.out⟩
        · have hf : (l == m) = false := by rw [← HSM.out]; simp [h0]
          have hz := ne_zero8 h0
          obtain ⟨u, hu⟩ : ∃ u : Nat, Hid ((unlike l m k).toNat = u) := ⟨_, rfl⟩
          rw [hu.out] at hz ⊢
          have hz' : ((u : Int) == 0) = false := by simpa using hz
          go_wp2
          rw [hf]
          go_ret
          exact ⟨rfl, HB.out⟩
end Go.Proofs.YtengjagahhfjoaaDoor
