/-
  Numbers modulo 2^130 - 5 in five limbs of 26 bits: plain mathematics.
-/
import Derived.Test.YtopmngjaieobnaaBr
namespace Go.Proofs.Ytopmngjaieobnaa
set_option linter.unusedVariables false

structure N5 where
  a : Int
  b : Int
  c : Int
  d : Int
  e : Int
def N5.list (n : N5) : List Int := [n.a, n.b, n.c, n.d, n.e]
def N5.val (n : N5) : Int := n.a + 67108864 * n.b + 4503599627370496 * n.c + 302231454903657293676544 * n.d + 20282409603651670423947251286016 * n.e
structure N5.le (n : N5) (B : Int) : Prop where
  a : 0 ≤ n.a ∧ n.a ≤ B
  b : 0 ≤ n.b ∧ n.b ≤ B
  c : 0 ≤ n.c ∧ n.c ≤ B
  d : 0 ≤ n.d ∧ n.d ≤ B
  e : 0 ≤ n.e ∧ n.e ≤ B
theorem N5.le.mono {n : N5} {B C : Int} (h : n.le B) (hc : B ≤ C) : n.le C := by
  obtain ⟨h1, h2, h3, h4, h5⟩ := h
  exact ⟨by omega, by omega, by omega, by omega, by omega⟩
theorem N5.le.all {n : N5} {B : Int} (h : n.le B) : ∀ x ∈ n.list, 0 ≤ x ∧ x ≤ B := by
  intro x hx
  simp only [N5.list, List.mem_cons, List.not_mem_nil, or_false] at hx
  rcases hx with rfl | rfl | rfl | rfl | rfl
  · exact h.a
  · exact h.b
  · exact h.c
  · exact h.d
  · exact h.e
theorem N5.le.get {n : N5} {B : Int} (h : n.le B) (hB : 0 ≤ B) (k : Nat) : 0 ≤ n.list.getD k 0 ∧ n.list.getD k 0 ≤ B := by
  rcases (by omega : k = 0 ∨ k = 1 ∨ k = 2 ∨ k = 3 ∨ k = 4 ∨ 5 ≤ k) with rfl | rfl | rfl | rfl | rfl | h5
  · exact h.a
  · exact h.b
  · exact h.c
  · exact h.d
  · exact h.e
  · have : n.list.getD k 0 = 0 := by
      have hl : n.list.length = 5 := rfl
      simp [List.getD, List.getElem?_eq_none (by omega : n.list.length ≤ k)]
    omega
def zeroN : N5 := ⟨0, 0, 0, 0, 0⟩
def primeP : Int := 1361129467683753853853498429727072845819

def addN (n m : N5) : N5 := ⟨n.a + m.a, n.b + m.b, n.c + m.c, n.d + m.d, n.e + m.e⟩
theorem addN_val (n m : N5) : (addN n m).val = n.val + m.val := by unfold addN N5.val; simp only; omega
theorem addN_le {n m : N5} {B C : Int} (h : n.le B) (k : m.le C) : (addN n m).le (B + C) := by
  obtain ⟨h1, h2, h3, h4, h5⟩ := h
  obtain ⟨k1, k2, k3, k4, k5⟩ := k
  exact ⟨by simp only [addN]; omega, by simp only [addN]; omega, by simp only [addN]; omega, by simp only [addN]; omega, by simp only [addN]; omega⟩

def mulN (n m : N5) : N5 := ⟨
  n.a * m.a + 5 * (n.b * m.e + n.c * m.d + n.d * m.c + n.e * m.b),
  n.a * m.b + n.b * m.a + 5 * (n.c * m.e + n.d * m.d + n.e * m.c),
  n.a * m.c + n.b * m.b + n.c * m.a + 5 * (n.d * m.e + n.e * m.d),
  n.a * m.d + n.b * m.c + n.c * m.b + n.d * m.a + 5 * (n.e * m.e),
  n.a * m.e + n.b * m.d + n.c * m.c + n.d * m.b + n.e * m.a⟩
def mulQ (n m : N5) : Int := (n.b * m.e + n.c * m.d + n.d * m.c + n.e * m.b) + 67108864 * (n.c * m.e + n.d * m.d + n.e * m.c) + 4503599627370496 * (n.d * m.e + n.e * m.d) + 302231454903657293676544 * (n.e * m.e)
theorem mulN_val (n m : N5) : n.val * m.val = (mulN n m).val + primeP * mulQ n m := by
  unfold mulN mulQ N5.val primeP
  simp only
  grind
theorem mul_bd {x y B C : Int} (hx : 0 ≤ x ∧ x ≤ B) (hy : 0 ≤ y ∧ y ≤ C) : 0 ≤ x * y ∧ x * y ≤ B * C :=
  ⟨Int.mul_nonneg hx.1 hy.1, Int.mul_le_mul hx.2 hy.2 hy.1 (by omega)⟩
theorem mulN_le {n m : N5} (h : n.le 268435456) (k : m.le 67108863) : (mulN n m).le 378302363061977088 := by
  have e : (268435456 : Int) * 67108863 = 18014398241046528 := by decide
  have aa := mul_bd h.a k.a
  have ab := mul_bd h.a k.b
  have ac := mul_bd h.a k.c
  have ad := mul_bd h.a k.d
  have ae := mul_bd h.a k.e
  have ba := mul_bd h.b k.a
  have bb := mul_bd h.b k.b
  have bc := mul_bd h.b k.c
  have bd := mul_bd h.b k.d
  have be := mul_bd h.b k.e
  have ca := mul_bd h.c k.a
  have cb := mul_bd h.c k.b
  have cc := mul_bd h.c k.c
  have cd := mul_bd h.c k.d
  have ce := mul_bd h.c k.e
  have da := mul_bd h.d k.a
  have db := mul_bd h.d k.b
  have dc := mul_bd h.d k.c
  have dd := mul_bd h.d k.d
  have de := mul_bd h.d k.e
  have ea := mul_bd h.e k.a
  have eb := mul_bd h.e k.b
  have ec := mul_bd h.e k.c
  have ed := mul_bd h.e k.d
  have ee := mul_bd h.e k.e
  simp only [e] at *
  refine ⟨?_, ?_, ?_, ?_, ?_⟩ <;> simp only [mulN] <;> omega

/-! ### Carried -/
def c1 (n : N5) : Int := n.a / 67108864
def c2 (n : N5) : Int := (n.b + c1 n) / 67108864
def c3 (n : N5) : Int := (n.c + c2 n) / 67108864
def c4 (n : N5) : Int := (n.d + c3 n) / 67108864
def c5 (n : N5) : Int := (n.e + c4 n) / 67108864
def carryN (n : N5) : N5 := ⟨n.a % 67108864, (n.b + c1 n) % 67108864, (n.c + c2 n) % 67108864, (n.d + c3 n) % 67108864, (n.e + c4 n) % 67108864⟩
theorem carryN_val (n : N5) : n.val = (carryN n).val + 1361129467683753853853498429727072845824 * c5 n := by
  have h1 : c1 n = n.a / 67108864 := rfl
  have h2 : c2 n = (n.b + c1 n) / 67108864 := rfl
  have h3 : c3 n = (n.c + c2 n) / 67108864 := rfl
  have h4 : c4 n = (n.d + c3 n) / 67108864 := rfl
  have h5 : c5 n = (n.e + c4 n) / 67108864 := rfl
  unfold carryN N5.val
  simp only
  omega
theorem carryN_le (n : N5) : (carryN n).le 67108863 := by
  refine ⟨?_, ?_, ?_, ?_, ?_⟩ <;> simp only [carryN] <;> omega
theorem c_bd {n : N5} {B : Int} (h : n.le B) (hB : B ≤ 1000000000000000000) :
    (0 ≤ c1 n ∧ c1 n ≤ 15000000000) ∧ (0 ≤ c2 n ∧ c2 n ≤ 15000000000) ∧ (0 ≤ c3 n ∧ c3 n ≤ 15000000000) ∧ (0 ≤ c4 n ∧ c4 n ≤ 15000000000) ∧ (0 ≤ c5 n ∧ c5 n ≤ 15000000000) := by
  obtain ⟨ha, hb, hc, hd, he⟩ := h
  have h1 : c1 n = n.a / 67108864 := rfl
  have h2 : c2 n = (n.b + c1 n) / 67108864 := rfl
  have h3 : c3 n = (n.c + c2 n) / 67108864 := rfl
  have h4 : c4 n = (n.d + c3 n) / 67108864 := rfl
  have h5 : c5 n = (n.e + c4 n) / 67108864 := rfl
  omega
def redN1 (n : N5) : N5 := ⟨(carryN n).a + 5 * c5 n, (carryN n).b, (carryN n).c, (carryN n).d, (carryN n).e⟩
def redN (n : N5) : N5 := redN1 (redN1 n)
theorem redN1_val (n : N5) : n.val = (redN1 n).val + primeP * c5 n := by
  have h := carryN_val n
  unfold redN1 primeP
  unfold N5.val at h ⊢
  simp only at h ⊢
  omega
theorem redN1_le {n : N5} (h : n.le 1000000000000000000) : (redN1 n).le 75067108863 := by
  have hc := carryN_le n
  have hb := (c_bd h (Int.le_refl _)).2.2.2.2
  obtain ⟨h1, h2, h3, h4, h5⟩ := hc
  refine ⟨?_, ?_, ?_, ?_, ?_⟩ <;> simp only [redN1] <;> omega
/-- Limbs that are small but for the lowest. -/
theorem redN_all {n : N5} (h : n.le 1000000000000000000) : (redN n).le 67108868 ∧ 0 ≤ (redN n).val ∧ (redN n).val < 1361129467683753853853498429727072845824 ∧ (redN n).val % primeP = n.val % primeP := by
  have v1 := redN1_val n
  have v2 := redN1_val (redN1 n)
  have w2 := carryN_val (redN1 n)
  have hc := carryN_le n
  have hb := (c_bd h (Int.le_refl _)).2.2.2.2
  have hc2 := carryN_le (redN1 n)
  have e1 : c1 (redN1 n) = (redN1 n).a / 67108864 := rfl
  have e2 : c2 (redN1 n) = ((redN1 n).b + c1 (redN1 n)) / 67108864 := rfl
  have e3 : c3 (redN1 n) = ((redN1 n).c + c2 (redN1 n)) / 67108864 := rfl
  have e4 : c4 (redN1 n) = ((redN1 n).d + c3 (redN1 n)) / 67108864 := rfl
  have e5 : c5 (redN1 n) = ((redN1 n).e + c4 (redN1 n)) / 67108864 := rfl
  have ra : (redN1 n).a = (carryN n).a + 5 * c5 n := rfl
  have rb : (redN1 n).b = (carryN n).b := rfl
  have rc : (redN1 n).c = (carryN n).c := rfl
  have rd : (redN1 n).d = (carryN n).d := rfl
  have re : (redN1 n).e = (carryN n).e := rfl
  have hmod : (redN n).val % primeP = n.val % primeP := by
    have : n.val = (redN n).val + primeP * (c5 (redN1 n) + c5 n) := by
      show n.val = (redN1 (redN1 n)).val + _
      rw [Int.mul_add]
      omega
    rw [this, Int.add_mul_emod_self_left]
  obtain ⟨h1, h2, h3, h4, h5⟩ := hc
  obtain ⟨k1, k2, k3, k4, k5⟩ := hc2
  have f2 : 0 ≤ c2 (redN1 n) ∧ c2 (redN1 n) ≤ 1 := by omega
  have f3 : 0 ≤ c3 (redN1 n) ∧ c3 (redN1 n) ≤ 1 := by omega
  have f4 : 0 ≤ c4 (redN1 n) ∧ c4 (redN1 n) ≤ 1 := by omega
  have f5 : 0 ≤ c5 (redN1 n) ∧ c5 (redN1 n) ≤ 1 := by omega
  have hv1 : (redN1 n).val ≤ 1361129467683753853853498429727072845824 + 75067108863 := by
    unfold N5.val
    omega
  have hle : (redN n).le 67108868 := by
    refine ⟨?_, ?_, ?_, ?_, ?_⟩ <;> show 0 ≤ _ ∧ _ <;> simp only [redN, redN1] at * <;> omega
  refine ⟨hle, ?_, ?_, hmod⟩
  · obtain ⟨l1, l2, l3, l4, l5⟩ := hle
    unfold N5.val
    omega
  · have hcv : 0 ≤ (carryN (redN1 n)).val ∧ (carryN (redN1 n)).val < 1361129467683753853853498429727072845824 := by
      unfold N5.val
      omega
    have hr : (redN n).val = (carryN (redN1 n)).val + 5 * c5 (redN1 n) := by
      unfold redN redN1 N5.val
      simp only
      omega
    omega

/-! ### The least -/
def beyondN (n : N5) : N5 := ⟨n.a + 5, n.b, n.c, n.d, n.e⟩
def leastN (n : N5) : N5 := carryN ⟨n.a + 5 * c5 (beyondN n), n.b, n.c, n.d, n.e⟩
theorem leastN_all {n : N5} (h : n.le 67108868) (h0 : 0 ≤ n.val) (h1 : n.val < 1361129467683753853853498429727072845824) : (leastN n).le 67108863 ∧ (leastN n).val = n.val % primeP ∧ 0 ≤ c5 (beyondN n) ∧ c5 (beyondN n) ≤ 1 := by
  have v1 := carryN_val (beyondN n)
  have l1 := carryN_le (beyondN n)
  have hb : (beyondN n).val = n.val + 5 := by unfold beyondN N5.val; simp only; omega
  have v2 := carryN_val ⟨n.a + 5 * c5 (beyondN n), n.b, n.c, n.d, n.e⟩
  have l2 := carryN_le ⟨n.a + 5 * c5 (beyondN n), n.b, n.c, n.d, n.e⟩
  have hv : (⟨n.a + 5 * c5 (beyondN n), n.b, n.c, n.d, n.e⟩ : N5).val = n.val + 5 * c5 (beyondN n) := by unfold N5.val; simp only; omega
  have q1 : 0 ≤ (carryN (beyondN n)).val ∧ (carryN (beyondN n)).val < 1361129467683753853853498429727072845824 := by
    obtain ⟨k1, k2, k3, k4, k5⟩ := l1
    unfold N5.val
    omega
  have q2 : 0 ≤ (leastN n).val ∧ (leastN n).val < 1361129467683753853853498429727072845824 := by
    obtain ⟨k1, k2, k3, k4, k5⟩ := l2
    unfold leastN N5.val
    omega
  refine ⟨l2, ?_, by omega, by omega⟩
  have e : (leastN n).val = (carryN ⟨n.a + 5 * c5 (beyondN n), n.b, n.c, n.d, n.e⟩).val := rfl
  have hc : c5 (beyondN n) = 0 ∨ c5 (beyondN n) = 1 := by omega
  rcases hc with hc | hc <;> rw [hc] at v1 v2 hv e <;> rw [e] at q2 ⊢ <;> unfold primeP <;> omega

/-! ### Words and bytes -/
/-- The number of two words and what is above. -/
def numN (low high top : Int) : N5 := ⟨low % 67108864, low / 67108864 % 67108864, low / 4503599627370496 + high % 16384 * 4096, high / 16384 % 67108864, high / 1099511627776 + top * 16777216⟩
theorem numN_val (low high top : Int) :
    (numN low high top).val = low + 18446744073709551616 * high + 340282366920938463463374607431768211456 * top := by
  unfold numN N5.val
  simp only
  omega
theorem numN_le {low high top : Int} (h1 : 0 ≤ low ∧ low ≤ 18446744073709551615) (h2 : 0 ≤ high ∧ high ≤ 18446744073709551615) (h3 : 0 ≤ top ∧ top ≤ 3) : (numN low high top).le 67108863 := by
  refine ⟨?_, ?_, ?_, ?_, ?_⟩ <;> simp only [numN] <;> omega
def lowW (n : N5) : Int := (n.a + n.b * 67108864 + n.c * 4503599627370496) % 18446744073709551616
def highW (n : N5) : Int := (n.c / 4096 + n.d * 16384 + n.e * 1099511627776) % 18446744073709551616
theorem words_val {n : N5} (h : n.le 67108863) : lowW n + 18446744073709551616 * highW n = n.val % 340282366920938463463374607431768211456 := by
  obtain ⟨h1, h2, h3, h4, h5⟩ := h
  unfold lowW highW N5.val
  omega
end Go.Proofs.Ytopmngjaieobnaa
