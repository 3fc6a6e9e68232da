/-
  Plain mathematics for words: a word of 32 bits turned bit by bit; the bytes of a word. No program is named here.
-/
import Derived.WalkKit
namespace Go.Proofs.Ytibnfldddpmafaa

/-- Turned left by one bit. -/
def rot1 (x : Int) : Int := x * 2 % 4294967296 + x / 2147483648
/-- Turned left by so many bits, one by one. -/
def rotn : Nat → Int → Int
  | 0, x => x
  | k + 1, x => rot1 (rotn k x)

theorem rot1_bd {x : Int} (h0 : 0 ≤ x) (h1 : x ≤ 4294967295) : 0 ≤ rot1 x ∧ rot1 x ≤ 4294967295 := by unfold rot1; omega
theorem rotn_bd {x : Int} (k : Nat) (h0 : 0 ≤ x) (h1 : x ≤ 4294967295) : 0 ≤ rotn k x ∧ rotn k x ≤ 4294967295 := by
  induction k with
  | zero => exact ⟨h0, h1⟩
  | succ k ih => exact rot1_bd ih.1 ih.2
theorem rotn_add (a b : Nat) (x : Int) : rotn a (rotn b x) = rotn (a + b) x := by
  induction a with
  | zero => rw [Nat.zero_add]; rfl
  | succ a ih => rw [Nat.succ_add]; show rot1 _ = rot1 _; rw [ih]

/-- The closed form: b: the low bits, a: the high ones. p = 2^k, q = 2^(32-k). -/
theorem rotn_closed : ∀ (k : Nat) (x : Int), k ≤ 31 → 0 ≤ x → x ≤ 4294967295 → ∃ p q : Int, p = 2 ^ k ∧ q = 2 ^ (32 - k) ∧ p * q = 4294967296 ∧ 1 ≤ p ∧ 2 ≤ q ∧ rotn k x = x % q * p + x / q := by
  intro k
  induction k with
  | zero => intro x _ h0 h1; exact ⟨1, 4294967296, rfl, rfl, rfl, by omega, by omega, by show x = _; omega⟩
  | succ k ih =>
    intro x hk h0 h1
    obtain ⟨p, q, hp, hq, hpq, hp1, hq2, hr⟩ := ih x (by omega) h0 h1
    have hqe : q = 2 * 2 ^ (32 - (k + 1)) := by rw [hq, show 32 - k = (32 - (k + 1)) + 1 by omega, Int.pow_succ]; omega
    generalize hQ : (2 : Int) ^ (32 - (k + 1)) = r at hqe
    have hr1 : 1 ≤ r := by omega
    have hpr : p * r = 2147483648 := by
      have : p * (2 * r) = 4294967296 := by rw [← hqe]; exact hpq
      rw [Int.mul_left_comm] at this; omega
    have hr2 : 2 ≤ r := by
      rcases Int.lt_or_le 1 r with h | h
      · omega
      · exfalso
        have e : r = 1 := by omega
        rw [e] at hQ
        have : (32 - (k + 1)) = 0 ∨ ∃ m, 32 - (k + 1) = m + 1 := by
          rcases Nat.eq_zero_or_pos (32 - (k + 1)) with h | h
          · exact .inl h
          · exact .inr ⟨_, (Nat.succ_pred_eq_of_pos h).symm⟩
        rcases this with h | ⟨m, h⟩
        · omega
        · rw [h, Int.pow_succ] at hQ; omega
    refine ⟨p * 2, r, by rw [Int.pow_succ, hp], rfl, by rw [Int.mul_right_comm, hpr]; rfl, by omega, hr2, ?_⟩
    show rot1 (rotn k x) = _
    rw [hr]
    -- x = a q + b, b = b1 r + b0
    have hxq : x = q * (x / q) + x % q := (Int.mul_ediv_add_emod x q).symm
    have hb0 : 0 ≤ x % q := Int.emod_nonneg _ (by omega)
    have hb1 : x % q < q := Int.emod_lt_of_pos _ (by omega)
    generalize x / q = a at hxq ⊢
    generalize x % q = b at hxq hb0 hb1 ⊢
    have hbr : b = r * (b / r) + b % r := (Int.mul_ediv_add_emod b r).symm
    have hc0 : 0 ≤ b % r := Int.emod_nonneg _ (by omega)
    have hc1 : b % r < r := Int.emod_lt_of_pos _ (by omega)
    generalize b / r = b1 at hbr
    generalize b % r = b0 at hbr hc0 hc1
    subst hbr
    have hb1r : 0 ≤ b1 ∧ b1 ≤ 1 := by
      constructor
      · rcases Int.lt_or_le b1 0 with h | h
        · have h2 : r * b1 ≤ r * (-1) := Int.mul_le_mul_of_nonneg_left (by omega) (by omega)
          omega
        · exact h
      · rcases Int.lt_or_le 1 b1 with h | h
        · have h2 : r * 2 ≤ r * b1 := Int.mul_le_mul_of_nonneg_left (by omega) (by omega)
          omega
        · exact h
    have ha : 0 ≤ a ∧ a ≤ p - 1 := by
      constructor
      · rcases Int.lt_or_le a 0 with h | h
        · have h2 : q * a ≤ q * (-1) := Int.mul_le_mul_of_nonneg_left (by omega) (by omega)
          omega
        · exact h
      · rcases Int.lt_or_le (p - 1) a with h | h
        · have h2 : q * p ≤ q * a := Int.mul_le_mul_of_nonneg_left (by omega) (by omega)
          rw [Int.mul_comm q p, hpq] at h2
          omega
        · exact h
    -- the two quotients by r
    have hx2 : x / r = 2 * a + b1 := by
      have : x = b0 + r * (2 * a + b1) := by
        rw [hxq, hqe, Int.mul_add]
        have : 2 * r * a = r * (2 * a) := by rw [Int.mul_comm 2 r, Int.mul_assoc]
        omega
      rw [this, Int.add_mul_ediv_left _ _ (by omega), Int.ediv_eq_zero_of_lt hc0 hc1]; omega
    have hx3 : x % r = b0 := by
      have : x = b0 + r * (2 * a + b1) := by
        rw [hxq, hqe, Int.mul_add]
        have : 2 * r * a = r * (2 * a) := by rw [Int.mul_comm 2 r, Int.mul_assoc]
        omega
      rw [this, Int.add_mul_emod_self_left, Int.emod_eq_of_lt hc0 hc1]
    rw [hx2, hx3]
    unfold rot1
    have hbp : 0 ≤ b0 * p ∧ b0 * p ≤ 2147483648 - p := by
      constructor
      · exact Int.mul_nonneg hc0 (by omega)
      · have h2 : b0 * p ≤ (r - 1) * p := Int.mul_le_mul_of_nonneg_right (by omega) (by omega)
        rw [Int.sub_mul, Int.mul_comm r p, hpr] at h2
        omega
    have e : (r * b1 + b0) * p = 2147483648 * b1 + b0 * p := by
      rw [Int.add_mul, Int.mul_right_comm, Int.mul_comm r p, hpr]
    rw [e, show b0 * (p * 2) = b0 * p * 2 by rw [Int.mul_assoc]]
    generalize b0 * p = c at *
    omega

/-- Turned by 32 bits it is the same. -/
theorem rotn_32 {x : Int} (h0 : 0 ≤ x) (h1 : x ≤ 4294967295) : rotn 32 x = x := by
  show rot1 (rotn 31 x) = x
  obtain ⟨p, q, hp, hq, _, _, _, hr⟩ := rotn_closed 31 x (by omega) h0 h1
  have hp' : p = 2147483648 := by rw [hp]; rfl
  have hq' : q = 2 := by rw [hq]; rfl
  rw [hr, hp', hq']
  unfold rot1
  have h2 : x % 2 = 0 ∨ x % 2 = 1 := by omega
  rcases h2 with h | h <;> rw [h] <;> omega
theorem rotn_mul32 {x : Int} (m : Nat) (h0 : 0 ≤ x) (h1 : x ≤ 4294967295) : rotn (32 * m) x = x := by
  induction m with
  | zero => rfl
  | succ m ih => rw [Nat.mul_succ, ← rotn_add, rotn_32 h0 h1, ih]
theorem rotn_mod {x : Int} (k : Nat) (h0 : 0 ≤ x) (h1 : x ≤ 4294967295) : rotn (k % 32) x = rotn k x := by
  have h : rotn (k % 32 + 32 * (k / 32)) x = rotn (k % 32) x := by rw [← rotn_add, rotn_mul32 _ h0 h1]
  rw [Nat.mod_add_div] at h
  exact h.symm

/-- The 'or' of two words that share no bit is their sum. -/
theorem or_u32_add (a b c : Nat) (k : Nat) (hb : b < 2 ^ k) (h : a = c * 2 ^ k) (ha : a + b < 4294967296) : bits .or .u32 (a : Int) (b : Int) = ((a + b : Nat) : Int) := by
  have e : a ||| b = a + b := by
    rw [h, Nat.mul_comm]
    exact (Nat.two_pow_add_eq_or_of_lt hb c).symm
  show IntKind.u32.wrap ((BitVec.ofInt 32 (a : Int) ||| BitVec.ofInt 32 (b : Int)).toNat : Int) = _
  rw [BitVec.toNat_or, BitVec.ofInt_natCast, BitVec.ofInt_natCast, BitVec.toNat_ofNat, BitVec.toNat_ofNat, Nat.mod_eq_of_lt (by omega : a < 2 ^ 32), Nat.mod_eq_of_lt (by omega : b < 2 ^ 32), e, IntKind.wrap_u32]
  omega

theorem left_math {x : Int} (k : Nat) (hk : k ≤ 31) (h0 : 0 ≤ x) (h1 : x ≤ 4294967295) : bits .or .u32 (x * 2 ^ k % 4294967296) (x / 2 ^ (32 - k)) = rotn k x := by
  obtain ⟨p, q, hp, hq, hpq, hp1, hq2, hr⟩ := rotn_closed k x hk h0 h1
  rw [hr, ← hp, ← hq]
  have hxq : x = q * (x / q) + x % q := (Int.mul_ediv_add_emod x q).symm
  have hb0 : 0 ≤ x % q := Int.emod_nonneg _ (by omega)
  have hb1 : x % q < q := Int.emod_lt_of_pos _ (by omega)
  have hx : x * p % 4294967296 = x % q * p := by
    have hlt : x % q * p < 4294967296 := by
      have h2 : x % q * p ≤ (q - 1) * p := Int.mul_le_mul_of_nonneg_right (by omega) (by omega)
      rw [Int.sub_mul, Int.mul_comm q p, hpq] at h2
      omega
    have e : x * p = x % q * p + 4294967296 * (x / q) := by
      have e1 : x * p = (q * (x / q) + x % q) * p := by rw [← hxq]
      rw [e1, Int.add_mul, Int.mul_right_comm, Int.mul_comm q p, hpq]; omega
    rw [e, Int.add_mul_emod_self_left, Int.emod_eq_of_lt (Int.mul_nonneg hb0 (by omega)) hlt]
  rw [hx]
  have ha : 0 ≤ x / q ∧ x / q ≤ p - 1 := by
    constructor
    · exact Int.ediv_nonneg h0 (by omega)
    · rcases Int.lt_or_le (p - 1) (x / q) with h | h
      · have h2 : q * p ≤ q * (x / q) := Int.mul_le_mul_of_nonneg_left (by omega) (by omega)
        rw [Int.mul_comm q p, hpq] at h2
        omega
      · exact h
  have hbp : 0 ≤ x % q * p ∧ x % q * p ≤ 4294967296 - p := by
    constructor
    · exact Int.mul_nonneg hb0 (by omega)
    · have h2 : x % q * p ≤ (q - 1) * p := Int.mul_le_mul_of_nonneg_right (by omega) (by omega)
      rw [Int.sub_mul, Int.mul_comm q p, hpq] at h2
      omega
  have hpn : ((2 ^ k : Nat) : Int) = p := by rw [hp]; push_cast; rfl
  have h := or_u32_add ((x % q * p).toNat) ((x / q).toNat) ((x % q).toNat) k (by omega)
    (by apply Int.ofNat.inj; show ((_ : Nat) : Int) = ((_ : Nat) : Int); rw [Int.toNat_of_nonneg hbp.1]; push_cast; rw [Int.toNat_of_nonneg hb0, hp]) (by omega)
  rw [Int.toNat_of_nonneg hbp.1, Int.toNat_of_nonneg ha.1] at h
  rw [h]
  omega
end Go.Proofs.Ytibnfldddpmafaa
