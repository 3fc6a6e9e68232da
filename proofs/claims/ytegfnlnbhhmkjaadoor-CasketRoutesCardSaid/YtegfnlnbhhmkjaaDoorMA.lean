/-
  Merged: Cdx Msa.
-/
import Derived.Test.YtegfnlnbhhmkjaaDoorGR
namespace Go.Proofs.YtegfnlnbhhmkjaaDoor
set_option maxRecDepth 100000
open Go.ChangeShapes Go.WideShapes Go.ChangeAt Go.RowKit
set_option linter.unusedVariables false
set_option linter.unusedSimpArgs false

theorem highx_cons (n x : Nat) : highB (n + 1) x = UInt8.ofNat (x / 256 ^ n % 256) :: highB n x := by
  rw [highB, lowB_succ, List.reverse_append]
  rfl
theorem highx_add (b n y : Nat) : highB n (b * 256 ^ n + y) = highB n y := by
  unfold highB lowB
  congr 1
  apply List.map_congr_left
  intro i hi
  have hi := List.mem_range.1 hi
  obtain ⟨d, rfl⟩ : ∃ d, n = i + 1 + d := ⟨n - i - 1, by omega⟩
  have e : b * 256 ^ (i + 1 + d) + y = 256 ^ i * (256 * (256 ^ d * b)) + y := by
    rw [Nat.pow_add, Nat.pow_succ]
    congr 1
    rw [Nat.mul_comm b, Nat.mul_assoc, Nat.mul_assoc]
  rw [e, Nat.mul_add_div (Nat.pow_pos (by omega)), Nat.mul_add_mod]
theorem highx_beN : ∀ l : List UInt8, highB l.length (beN l) = l
  | [] => rfl
  | b :: l => by
    have ih := highx_beN l
    have hlt := beN_lt l
    rw [List.length_cons, beN_cons, highx_cons, highx_add, ih]
    congr 1
    have hb := b.toNat_lt
    rw [Nat.mul_comm, Nat.mul_add_div (Nat.pow_pos (by omega)), Nat.div_eq_of_lt hlt, Nat.add_zero, Nat.mod_eq_of_lt (by omega)]
    simp
/-- A number that is taken: what stood there. -/
theorem numSx_ok {size : Nat} {most : Int} {l r : List UInt8} {e v : Int} (h : numS size most l e = (v, r, 0)) : e = 0 ∧ l = highB size v.toNat ++ r ∧ 0 ≤ v ∧ v ≤ most ∧ v.toNat < 256 ^ size := by
  unfold numS at h
  split at h
  · rename_i h1
    injection h with _ h
    injection h with _ h
    exact absurd h h1
  · rename_i h1
    split at h
    · injection h with _ h
      injection h with _ h
      cases h
    · rename_i h2
      split at h
      · injection h with _ h
        injection h with _ h
        cases h
      · rename_i h3
        injection h with h4 h
        injection h with h5 h
        subst h4 h5
        have hl : (l.take size).length = size := by rw [List.length_take]; omega
        have hb := highx_beN (l.take size)
        have hlt := beN_lt (l.take size)
        rw [hl] at hb hlt
        refine ⟨by omega, ?_, by omega, by omega, by rw [Int.toNat_natCast]; exact hlt⟩
        rw [Int.toNat_natCast, hb, List.take_append_drop]
theorem numSx_put {size : Nat} {most : Int} {v : Int} (h0 : 0 ≤ v) (h1 : v ≤ most) (h2 : v.toNat < 256 ^ size) (r : List UInt8) : numS size most (highB size v.toNat ++ r) 0 = (v, r, 0) := by
  have hl := highB_len size v.toNat
  have ht : (highB size v.toNat ++ r).take size = highB size v.toNat := List.take_left' hl
  have hb : beN (highB size v.toNat) = v.toNat := by rw [beN_highB]; exact Nat.mod_eq_of_lt h2
  rw [numS_yes (by rw [List.length_append, hl]; omega) (by rw [ht, hb]; omega), ht, hb, List.drop_left' hl]
  congr 1
  omega
theorem fixSx_ok {n : Int} {l s r : List UInt8} {e : Int} (h0 : 0 ≤ n) (h : fixS n l e = (s, r, 0)) : e = 0 ∧ l = s ++ r ∧ (s.length : Int) = n := by
  unfold fixS at h
  split at h
  · rename_i h1
    injection h with h2 h
    injection h with h3 h
    subst h2 h3 h
    rcases h1 with h1 | h1
    · exact absurd rfl h1
    · exact ⟨rfl, rfl, by simp only [List.length_nil]; omega⟩
  · rename_i h1
    split at h
    · injection h with _ h
      injection h with _ h
      cases h
    · rename_i h2
      injection h with h3 h
      injection h with h4 h
      subst h3 h4
      refine ⟨by omega, (List.take_append_drop _ _).symm, ?_⟩
      rw [List.length_take]
      omega
theorem fixSx_put (s r : List UInt8) : fixS (s.length : Int) (s ++ r) 0 = (s, r, 0) := by
  by_cases h : s = []
  · subst h
    exact fixS_off (.inr (by simp))
  · have : 0 < s.length := List.length_pos_iff.2 h
    rw [fixS_yes this (by rw [List.length_append]; omega), List.take_left, List.drop_left]
theorem bytSx_ok {most : Int} {l s r : List UInt8} {e : Int} (h : bytS most l e = (s, r, 0)) : e = 0 ∧ l = highB 4 s.length ++ s ++ r ∧ (s.length : Int) ≤ most := by
  unfold bytS at h
  obtain ⟨v, l2, e2, hS⟩ : ∃ v l2 e2, numS 4 most l e = (v, l2, e2) := ⟨_, _, _, rfl⟩
  rw [hS] at h
  have hb : 0 ≤ v := by
    have : v = (numS 4 most l e).1 := by rw [hS]
    rw [this]
    unfold numS
    repeat' split
    all_goals (simp only; omega)
  obtain ⟨rfl, rfl, hl⟩ := fixSx_ok (by exact hb) h
  obtain ⟨rfl, rfl, h1, h2, h3⟩ := numSx_ok hS
  exact ⟨rfl, by rw [show v.toNat = s.length by omega, List.append_assoc], by omega⟩
theorem bytSx_put {most : Int} {s : List UInt8} (h1 : (s.length : Int) ≤ most) (h2 : s.length < 4294967296) (r : List UInt8) : bytS most (highB 4 s.length ++ s ++ r) 0 = (s, r, 0) := by
  unfold bytS
  have e := numSx_put (size := 4) (most := most) (v := (s.length : Int)) (by omega) h1 (by rw [Int.toNat_natCast]; exact Nat.lt_of_lt_of_le h2 (by decide)) (s ++ r)
  rw [Int.toNat_natCast] at e
  rw [List.append_assoc, e]
  exact fixSx_put s r

theorem endS_ok {r : List UInt8} {er : Int} (h : endS r er = 0) : er = 0 ∧ r = [] := by
  unfold endS at h
  split at h
  · rename_i h1
    exact absurd h h1
  · rename_i h1
    split at h
    · cases h
    · rename_i h2
      exact ⟨by omega, List.eq_nil_of_length_eq_zero (by omega)⟩
end Go.Proofs.YtegfnlnbhhmkjaaDoor

namespace Go.Proofs.YtegfnlnbhhmkjaaDoor
set_option maxRecDepth 100000
open Go.ChangeShapes Go.WideShapes Go.ChangeAt Go.RowKit
set_option linter.unusedVariables false
set_option linter.unusedSimpArgs false

/-! Items, one behind the other. -/
section
variable {β : Type} (f : List UInt8 → Int → β × List UInt8 × Int)
def rdF : Nat → List UInt8 → Int → List β × List UInt8 × Int
  | 0, l, e => ([], l, e)
  | n + 1, l, e => ((rdF n l e).1 ++ [(f (rdF n l e).2.1 (rdF n l e).2.2).1], (f (rdF n l e).2.1 (rdF n l e).2.2).2)
variable {f}
theorem rdF_succ {n : Nat} {l : List UInt8} {e : Int} {b : List β} {l1 : List UInt8} {e1 : Int} {v : β} {l2 : List UInt8} {e2 : Int} (h : rdF f n l e = (b, l1, e1)) (h2 : f l1 e1 = (v, l2, e2)) : rdF f (n + 1) l e = (b ++ [v], l2, e2) := by
  rw [rdF, h]
  simp only [h2]
theorem rdF_off (hf : ∀ l e, e ≠ 0 → (f l e).2 = (l, e)) {l : List UInt8} {e : Int} (he : e ≠ 0) : ∀ n, (rdF f n l e).2 = (l, e)
  | 0 => rfl
  | n + 1 => by
    have ih := rdF_off (l := l) hf he n
    rw [rdF, ih]
    exact hf l e he
theorem rdF_len (l : List UInt8) (e : Int) : ∀ n, (rdF f n l e).1.length = n
  | 0 => rfl
  | n + 1 => by rw [rdF, List.length_append, rdF_len l e n]; rfl
theorem rdF_le (hf : ∀ l e, (f l e).2.1.length ≤ l.length) (l : List UInt8) (e : Int) : ∀ n, (rdF f n l e).2.1.length ≤ l.length
  | 0 => Nat.le_refl _
  | n + 1 => by rw [rdF]; exact Nat.le_trans (hf _ _) (rdF_le hf l e n)
theorem rdF_app (l : List UInt8) (e : Int) (m : Nat) : ∀ n, rdF f (m + n) l e = ((rdF f m l e).1 ++ (rdF f n (rdF f m l e).2.1 (rdF f m l e).2.2).1, (rdF f n (rdF f m l e).2.1 (rdF f m l e).2.2).2)
  | 0 => by simp [rdF]
  | n + 1 => by
    rw [show m + (n + 1) = m + n + 1 from rfl, rdF, rdF_app l e m n, rdF]
    simp
theorem rdF_err (hf : ∀ l e, e ≠ 0 → (f l e).2 = (l, e)) {l : List UInt8} {e : Int} {m n : Nat} (hmn : m ≤ n) (h : (rdF f m l e).2.2 ≠ 0) : (rdF f n l e).2.2 = (rdF f m l e).2.2 := by
  obtain ⟨d, rfl⟩ : ∃ d, n = m + d := ⟨n - m, by omega⟩
  rw [rdF_app]
  simp only [rdF_off hf h]
theorem rdF_ok {g : β → List UInt8} {P : β → Prop} (hf : ∀ l e x r, f l e = (x, r, 0) → e = 0 ∧ l = g x ++ r ∧ P x) : ∀ (n : Nat) (l : List UInt8) (e : Int) (b : List β) (r : List UInt8), rdF f n l e = (b, r, 0) → e = 0 ∧ l = b.flatMap g ++ r ∧ b.length = n ∧ ∀ x ∈ b, P x
  | 0, l, e, b, r, h => by
    simp only [rdF, Prod.mk.injEq] at h
    obtain ⟨rfl, rfl, rfl⟩ := h
    exact ⟨rfl, rfl, rfl, fun _ h => (by cases h)⟩
  | n + 1, l, e, b, r, h => by
    obtain ⟨b0, l1, e1, h0⟩ : ∃ b0 l1 e1, rdF f n l e = (b0, l1, e1) := ⟨_, _, _, rfl⟩
    obtain ⟨v, l2, e2, h2⟩ : ∃ v l2 e2, f l1 e1 = (v, l2, e2) := ⟨_, _, _, rfl⟩
    rw [rdF_succ h0 h2] at h
    simp only [Prod.mk.injEq] at h
    obtain ⟨rfl, rfl, rfl⟩ := h
    obtain ⟨rfl, rfl, hv⟩ := hf _ _ _ _ h2
    obtain ⟨rfl, rfl, rfl, hb⟩ := rdF_ok hf n l e b0 _ h0
    refine ⟨rfl, by simp, by simp, fun x hx => ?_⟩
    rcases List.mem_append.1 hx with hx | hx
    · exact hb x hx
    · rw [List.mem_singleton.1 hx]; exact hv
theorem rdF_put {g : β → List UInt8} {P : β → Prop} (hf : ∀ x r, P x → f (g x ++ r) 0 = (x, r, 0)) (r : List UInt8) : ∀ b : List β, (∀ x ∈ b, P x) → rdF f b.length (b.flatMap g ++ r) 0 = (b, r, 0)
  | [], _ => rfl
  | x :: b, h => by
    have ih := rdF_put hf r b fun y hy => h y (by simp [hy])
    have e : (x :: b).length = 1 + b.length := by rw [List.length_cons]; omega
    have h1 : rdF f 1 ((x :: b).flatMap g ++ r) 0 = ([x], b.flatMap g ++ r, 0) := by
      have h2 := hf x (b.flatMap g ++ r) (h x (by simp))
      have h3 : rdF f 0 ((x :: b).flatMap g ++ r) 0 = ([], g x ++ (b.flatMap g ++ r), 0) := by simp [rdF]
      rw [rdF_succ h3 h2]
      rfl
    rw [e, rdF_app, h1]
    simp only [ih, List.singleton_append]
end
theorem numS_nn (size : Nat) (most : Int) (l : List UInt8) (e : Int) : 0 ≤ (numS size most l e).1 := by
  unfold numS
  repeat' split
  all_goals (simp only; omega)
theorem numS_most (size : Nat) (most : Int) (hm : 0 ≤ most) (l : List UInt8) (e : Int) : (numS size most l e).1 ≤ most := by
  unfold numS
  repeat' split
  all_goals (simp only; omega)
theorem bytS_off {most : Int} {l : List UInt8} {e : Int} (he : e ≠ 0) : bytS most l e = ([], l, e) := by
  unfold bytS
  rw [numS_off he]
  exact fixS_off (.inl he)
theorem highB_one (n : Nat) : highB 1 n = [UInt8.ofNat n] := by
  have e : UInt8.ofNat (n % 256) = UInt8.ofNat n := by apply UInt8.toNat_inj.1; simp
  unfold highB lowB
  simp [List.range_succ, e]
theorem smallL_eq {v : Int} (h0 : 0 ≤ v) (h1 : v ≤ 255) : smallL v = highB 1 v.toNat := by
  rw [highB_one, smallL, if_pos (by omega)]
theorem numL_eq {v : Int} (h0 : 0 ≤ v) : numL v = highB 8 v.toNat := by
  rw [numL, if_neg (by omega)]
theorem num_put {most v : Int} (h0 : 0 ≤ v) (h1 : v ≤ most) (h2 : v.toNat < 18446744073709551616) (r : List UInt8) : numS 8 most (numL v ++ r) 0 = (v, r, 0) := by
  rw [numL_eq h0]
  exact numSx_put h0 h1 (by rw [show (256 : Nat) ^ 8 = 18446744073709551616 by decide]; exact h2) r
theorem small_put {most v : Int} (h0 : 0 ≤ v) (h1 : v ≤ most) (h2 : v ≤ 255) (r : List UInt8) : numS 1 most (smallL v ++ r) 0 = (v, r, 0) := by
  rw [smallL_eq h0 h2]
  exact numSx_put h0 h1 (by omega) r
theorem small_ok {most v : Int} (hm : most ≤ 255) {l r : List UInt8} {e : Int} (h : numS 1 most l e = (v, r, 0)) : e = 0 ∧ l = smallL v ++ r ∧ 0 ≤ v ∧ v ≤ most := by
  obtain ⟨a, b, c, d, _⟩ := numSx_ok h
  exact ⟨a, by rw [smallL_eq c (by omega)]; exact b, c, d⟩
theorem num_ok {most v : Int} {l r : List UInt8} {e : Int} (h : numS 8 most l e = (v, r, 0)) : e = 0 ∧ l = numL v ++ r ∧ 0 ≤ v ∧ v ≤ most := by
  obtain ⟨a, b, c, d, _⟩ := numSx_ok h
  exact ⟨a, by rw [numL_eq c]; exact b, c, d⟩
def bytB (l : List UInt8) : List UInt8 := highB 4 l.length ++ l
theorem bytB_put {most : Int} {s : List UInt8} (h1 : (s.length : Int) ≤ most) (h2 : s.length < 4294967296) (r : List UInt8) : bytS most (bytB s ++ r) 0 = (s, r, 0) := bytSx_put h1 h2 r

/-! A message's items. -/
structure KrV where
  key : List UInt8
  set : List UInt8
instance : Inhabited KrV := ⟨⟨[], []⟩⟩
def krB (r : KrV) : List UInt8 := r.key ++ bytB r.set
def KrOk (r : KrV) : Prop := r.key.length = 32 ∧ r.set.length ≤ 1048576
def atF (l : List UInt8) (e : Int) : Int × List UInt8 × Int := numS 8 255 l e
def digF (l : List UInt8) (e : Int) : List UInt8 × List UInt8 × Int := fixS 32 l e
def rowF (l : List UInt8) (e : Int) : KrV × List UInt8 × Int :=
  (⟨(fixS 32 l e).1, (bytS 1048576 (fixS 32 l e).2.1 (fixS 32 l e).2.2).1⟩, (bytS 1048576 (fixS 32 l e).2.1 (fixS 32 l e).2.2).2)
theorem rowF_of {l : List UInt8} {e : Int} {k : List UInt8} {l1 : List UInt8} {e1 : Int} {s : List UInt8} {l2 : List UInt8} {e2 : Int} (h : fixS 32 l e = (k, l1, e1)) (h2 : bytS 1048576 l1 e1 = (s, l2, e2)) : rowF l e = (⟨k, s⟩, l2, e2) := by
  unfold rowF
  simp only [h, h2]
theorem atF_off : ∀ (l : List UInt8) (e : Int), e ≠ 0 → (atF l e).2 = (l, e) := fun l e he => by unfold atF; rw [numS_off he]
theorem digF_off : ∀ (l : List UInt8) (e : Int), e ≠ 0 → (digF l e).2 = (l, e) := fun l e he => by unfold digF; rw [fixS_off (.inl he)]
theorem rowF_off : ∀ (l : List UInt8) (e : Int), e ≠ 0 → (rowF l e).2 = (l, e) := fun l e he => by unfold rowF; simp only [fixS_off (.inl he), bytS_off he]
theorem atF_ok (l : List UInt8) (e : Int) (x : Int) (r : List UInt8) (h : atF l e = (x, r, 0)) : e = 0 ∧ l = numL x ++ r ∧ (0 ≤ x ∧ x ≤ 255) := num_ok h
theorem digF_ok (l : List UInt8) (e : Int) (x : List UInt8) (r : List UInt8) (h : digF l e = (x, r, 0)) : e = 0 ∧ l = id x ++ r ∧ x.length = 32 := by
  obtain ⟨a, b, c⟩ := fixSx_ok (by omega) h
  exact ⟨a, b, by omega⟩
theorem rowF_ok (l : List UInt8) (e : Int) (x : KrV) (r : List UInt8) (h : rowF l e = (x, r, 0)) : e = 0 ∧ l = krB x ++ r ∧ KrOk x := by
  obtain ⟨k, l1, e1, h1⟩ : ∃ k l1 e1, fixS 32 l e = (k, l1, e1) := ⟨_, _, _, rfl⟩
  obtain ⟨s, l2, e2, h2⟩ : ∃ s l2 e2, bytS 1048576 l1 e1 = (s, l2, e2) := ⟨_, _, _, rfl⟩
  rw [rowF_of h1 h2] at h
  simp only [Prod.mk.injEq] at h
  obtain ⟨rfl, rfl, rfl⟩ := h
  obtain ⟨rfl, rfl, y⟩ := bytSx_ok h2
  obtain ⟨rfl, rfl, z⟩ := fixSx_ok (by omega) h1
  exact ⟨rfl, by unfold krB bytB; simp only [List.append_assoc], by show k.length = 32; omega, by show s.length ≤ _; omega⟩
theorem atF_put (x : Int) (r : List UInt8) (h : 0 ≤ x ∧ x ≤ 255) : atF (numL x ++ r) 0 = (x, r, 0) := num_put h.1 h.2 (by omega) r
theorem digF_put (x : List UInt8) (r : List UInt8) (h : x.length = 32) : digF (id x ++ r) 0 = (x, r, 0) := by
  have := fixSx_put x r
  rw [h] at this
  exact this
theorem rowF_put (x : KrV) (r : List UInt8) (h : KrOk x) : rowF (krB x ++ r) 0 = (x, r, 0) := by
  obtain ⟨h1, h2⟩ := h
  have e1 := fixSx_put x.key (bytB x.set ++ r)
  rw [h1] at e1
  have e2 := bytB_put (most := 1048576) (s := x.set) (by omega) (by omega) r
  unfold krB
  rw [List.append_assoc, rowF_of e1 e2]
theorem atF_le (l : List UInt8) (e : Int) : (atF l e).2.1.length ≤ l.length := numS_le _ _ _ _
theorem digF_le (l : List UInt8) (e : Int) : (digF l e).2.1.length ≤ l.length := fixS_le _ _ _
theorem rowF_le (l : List UInt8) (e : Int) : (rowF l e).2.1.length ≤ l.length := Nat.le_trans (bytS_le _ _ _) (fixS_le _ _ _)

/-- A list with its count. -/
def cntF {β : Type} (f : List UInt8 → Int → β × List UInt8 × Int) (l : List UInt8) (e : Int) : List β × List UInt8 × Int := rdF f (numS 1 255 l e).1.toNat (numS 1 255 l e).2.1 (numS 1 255 l e).2.2
def cntB {β : Type} (g : β → List UInt8) (b : List β) : List UInt8 := smallL (b.length : Int) ++ b.flatMap g
section
variable {β : Type} {f : List UInt8 → Int → β × List UInt8 × Int} {g : β → List UInt8} {P : β → Prop}
theorem cntF_of {l : List UInt8} {e : Int} {v : Int} {l1 : List UInt8} {e1 : Int} {b : List β} {l2 : List UInt8} {e2 : Int} (h : numS 1 255 l e = (v, l1, e1)) (h2 : rdF f v.toNat l1 e1 = (b, l2, e2)) : cntF f l e = (b, l2, e2) := by
  unfold cntF
  simp only [h, h2]
theorem cntF_off (hf : ∀ l e, e ≠ 0 → (f l e).2 = (l, e)) {l : List UInt8} {e : Int} (he : e ≠ 0) : (cntF f l e).2 = (l, e) := by
  unfold cntF
  simp only [numS_off he, rdF_off hf he]
theorem cntF_ok (hf : ∀ l e x r, f l e = (x, r, 0) → e = 0 ∧ l = g x ++ r ∧ P x) {l : List UInt8} {e : Int} {b : List β} {r : List UInt8} (h : cntF f l e = (b, r, 0)) : e = 0 ∧ l = cntB g b ++ r ∧ b.length ≤ 255 ∧ ∀ x ∈ b, P x := by
  obtain ⟨v, l1, e1, h1⟩ : ∃ v l1 e1, numS 1 255 l e = (v, l1, e1) := ⟨_, _, _, rfl⟩
  obtain ⟨b', l2, e2, h2⟩ : ∃ b' l2 e2, rdF f v.toNat l1 e1 = (b', l2, e2) := ⟨_, _, _, rfl⟩
  rw [cntF_of h1 h2] at h
  simp only [Prod.mk.injEq] at h
  obtain ⟨rfl, rfl, rfl⟩ := h
  obtain ⟨rfl, rfl, hl, hp⟩ := rdF_ok hf _ _ _ _ _ h2
  obtain ⟨rfl, rfl, x1, x2⟩ := small_ok (by omega) h1
  exact ⟨rfl, by unfold cntB; rw [show (b'.length : Int) = v by omega, List.append_assoc], by omega, hp⟩
theorem cntF_put (hf : ∀ x r, P x → f (g x ++ r) 0 = (x, r, 0)) (r : List UInt8) {b : List β} (hl : b.length ≤ 255) (h : ∀ x ∈ b, P x) : cntF f (cntB g b ++ r) 0 = (b, r, 0) := by
  unfold cntB
  rw [List.append_assoc]
  refine cntF_of (small_put (by omega) (by omega) (by omega) _) ?_
  rw [Int.toNat_natCast]
  exact rdF_put hf r b h
theorem cntF_le (hf : ∀ l e, (f l e).2.1.length ≤ l.length) (l : List UInt8) (e : Int) : (cntF f l e).2.1.length ≤ l.length := Nat.le_trans (rdF_le hf _ _ _) (numS_le _ _ _ _)
end

/-! Messages. -/
structure MgV where
  kind : Int
  frm : Int
  ask : Int
  err : Int
  for_ : Int
  level : Int
  row : KrV
  ats : List Int
  digs : List (List UInt8)
  rows : List KrV
instance : Inhabited MgV := ⟨⟨0, 0, 0, 0, 0, 0, default, [], [], []⟩⟩
def bodyB (m : MgV) : List UInt8 :=
  if m.kind = 1 ∨ m.kind = 4 then krB m.row
  else if m.kind = 2 then smallL m.err
  else if m.kind = 3 then m.row.key
  else if m.kind = 5 then smallL m.for_ ++ krB m.row
  else if m.kind = 6 then smallL m.level ++ (cntB numL m.ats ++ cntB id m.digs)
  else if m.kind = 7 then cntB numL m.ats ++ cntB krB m.rows
  else []
def mgB (m : MgV) : List UInt8 := smallL m.kind ++ (smallL m.frm ++ (numL m.ask ++ bodyB m))
/-- Keys and digests have 32 bytes. -/
def K32 (m : MgV) : Prop := m.row.key.length = 32 ∧ (∀ d ∈ m.digs, d.length = 32) ∧ ∀ r ∈ m.rows, r.key.length = 32
def BodyOk (m : MgV) : Prop :=
  if m.kind = 1 ∨ m.kind = 4 then m.row.set.length ≤ 1048576
  else if m.kind = 2 then 0 ≤ m.err ∧ m.err ≤ 255
  else if m.kind = 3 then True
  else if m.kind = 5 then (0 ≤ m.for_ ∧ m.for_ ≤ 7) ∧ m.row.set.length ≤ 1048576
  else if m.kind = 6 then (0 ≤ m.level ∧ m.level ≤ 4) ∧ (m.ats.length ≤ 255 ∧ ∀ z ∈ m.ats, 0 ≤ z ∧ z ≤ 255) ∧ m.digs.length ≤ 255
  else if m.kind = 7 then (m.ats.length ≤ 255 ∧ ∀ z ∈ m.ats, 0 ≤ z ∧ z ≤ 255) ∧ (m.rows.length ≤ 255 ∧ ∀ r ∈ m.rows, r.set.length ≤ 1048576)
  else False
def MgOk (m : MgV) : Prop := (1 ≤ m.kind ∧ m.kind ≤ 7) ∧ (0 ≤ m.frm ∧ m.frm ≤ 8) ∧ (0 ≤ m.ask ∧ m.ask ≤ 4611686018427387904) ∧ BodyOk m
/-- What a kind has alone. -/
def mg0 (k f a : Int) : MgV := ⟨k, f, a, 0, 0, 0, ⟨zbytes 32, []⟩, [], [], []⟩
def strip (m : MgV) : MgV :=
  if m.kind = 1 ∨ m.kind = 4 then { mg0 m.kind m.frm m.ask with row := m.row }
  else if m.kind = 2 then { mg0 m.kind m.frm m.ask with err := m.err }
  else if m.kind = 3 then { mg0 m.kind m.frm m.ask with row := ⟨m.row.key, []⟩ }
  else if m.kind = 5 then { mg0 m.kind m.frm m.ask with for_ := m.for_, row := m.row }
  else if m.kind = 6 then { mg0 m.kind m.frm m.ask with level := m.level, ats := m.ats, digs := m.digs }
  else if m.kind = 7 then { mg0 m.kind m.frm m.ask with ats := m.ats, rows := m.rows }
  else mg0 m.kind m.frm m.ask
/-- What is read of the body. -/
def rdBody (k f a : Int) (l : List UInt8) (e : Int) : MgV × List UInt8 × Int :=
  if k = 1 ∨ k = 4 then ({ mg0 k f a with row := (rowF l e).1 }, (rowF l e).2)
  else if k = 2 then ({ mg0 k f a with err := (numS 1 255 l e).1 }, (numS 1 255 l e).2)
  else if k = 3 then ({ mg0 k f a with row := ⟨(fixS 32 l e).1, []⟩ }, (fixS 32 l e).2)
  else if k = 5 then ({ mg0 k f a with for_ := (numS 1 7 l e).1, row := (rowF (numS 1 7 l e).2.1 (numS 1 7 l e).2.2).1 }, (rowF (numS 1 7 l e).2.1 (numS 1 7 l e).2.2).2)
  else if k = 6 then ({ mg0 k f a with level := (numS 1 4 l e).1, ats := (cntF atF (numS 1 4 l e).2.1 (numS 1 4 l e).2.2).1, digs := (cntF digF (cntF atF (numS 1 4 l e).2.1 (numS 1 4 l e).2.2).2.1 (cntF atF (numS 1 4 l e).2.1 (numS 1 4 l e).2.2).2.2).1 }, (cntF digF (cntF atF (numS 1 4 l e).2.1 (numS 1 4 l e).2.2).2.1 (cntF atF (numS 1 4 l e).2.1 (numS 1 4 l e).2.2).2.2).2)
  else if k = 7 then ({ mg0 k f a with ats := (cntF atF l e).1, rows := (cntF rowF (cntF atF l e).2.1 (cntF atF l e).2.2).1 }, (cntF rowF (cntF atF l e).2.1 (cntF atF l e).2.2).2)
  else (mg0 k f a, l, 1)
def rdMg (l : List UInt8) : MgV × List UInt8 × Int :=
  rdBody (numS 1 7 l 0).1 (numS 1 8 (numS 1 7 l 0).2.1 (numS 1 7 l 0).2.2).1 (numS 8 4611686018427387904 (numS 1 8 (numS 1 7 l 0).2.1 (numS 1 7 l 0).2.2).2.1 (numS 1 8 (numS 1 7 l 0).2.1 (numS 1 7 l 0).2.2).2.2).1
    (numS 8 4611686018427387904 (numS 1 8 (numS 1 7 l 0).2.1 (numS 1 7 l 0).2.2).2.1 (numS 1 8 (numS 1 7 l 0).2.1 (numS 1 7 l 0).2.2).2.2).2.1 (numS 8 4611686018427387904 (numS 1 8 (numS 1 7 l 0).2.1 (numS 1 7 l 0).2.2).2.1 (numS 1 8 (numS 1 7 l 0).2.1 (numS 1 7 l 0).2.2).2.2).2.2
theorem rdMg_of {l : List UInt8} {k : Int} {l1 : List UInt8} {e1 f : Int} {l2 : List UInt8} {e2 a : Int} {l3 : List UInt8} {e3 : Int} (h1 : numS 1 7 l 0 = (k, l1, e1)) (h2 : numS 1 8 l1 e1 = (f, l2, e2)) (h3 : numS 8 4611686018427387904 l2 e2 = (a, l3, e3)) : rdMg l = rdBody k f a l3 e3 := by
  unfold rdMg
  simp only [h1, h2, h3]
theorem rdBody_ok {k f a : Int} {l : List UInt8} {e : Int} {m : MgV} {r : List UInt8} (h : rdBody k f a l e = (m, r, 0)) : e = 0 ∧ l = bodyB m ++ r ∧ BodyOk m ∧ K32 m ∧ strip m = m ∧ m.kind = k ∧ m.frm = f ∧ m.ask = a := by
  have z32 : (zbytes 32).length = 32 := zbytes_len 32
  unfold rdBody at h
  split at h
  · rename_i h1
    obtain ⟨x, l2, e2, hx⟩ : ∃ x l2 e2, rowF l e = (x, l2, e2) := ⟨_, _, _, rfl⟩
    rw [hx] at h
    simp only [Prod.mk.injEq] at h
    obtain ⟨rfl, rfl, rfl⟩ := h
    obtain ⟨rfl, rfl, y⟩ := rowF_ok _ _ _ _ hx
    refine ⟨rfl, ?_, ?_, ⟨y.1, fun _ h => (by cases h), fun _ h => (by cases h)⟩, ?_, rfl, rfl, rfl⟩
    · simp only [bodyB, mg0, eq_true h1, if_true, if_false]
    · simp only [BodyOk, mg0, eq_true h1, if_true, if_false]; exact y.2
    · simp only [strip, mg0, eq_true h1, if_true, if_false]
  · rename_i h1
    split at h
    · rename_i h2
      obtain ⟨x, l2, e2, hx⟩ : ∃ x l2 e2, numS 1 255 l e = (x, l2, e2) := ⟨_, _, _, rfl⟩
      rw [hx] at h
      simp only [Prod.mk.injEq] at h
      obtain ⟨rfl, rfl, rfl⟩ := h
      obtain ⟨rfl, rfl, y⟩ := small_ok (by omega) hx
      refine ⟨rfl, ?_, ?_, ⟨z32, fun _ h => (by cases h), fun _ h => (by cases h)⟩, ?_, rfl, rfl, rfl⟩
      · simp only [bodyB, mg0, eq_false h1, eq_true h2, if_true, if_false]
      · simp only [BodyOk, mg0, eq_false h1, eq_true h2, if_true, if_false]; exact y
      · simp only [strip, mg0, eq_false h1, eq_true h2, if_true, if_false]
    · rename_i h2
      split at h
      · rename_i h3
        obtain ⟨x, l2, e2, hx⟩ : ∃ x l2 e2, fixS 32 l e = (x, l2, e2) := ⟨_, _, _, rfl⟩
        rw [hx] at h
        simp only [Prod.mk.injEq] at h
        obtain ⟨rfl, rfl, rfl⟩ := h
        obtain ⟨rfl, rfl, y⟩ := fixSx_ok (by omega) hx
        refine ⟨rfl, ?_, ?_, ⟨by show x.length = 32; omega, fun _ h => (by cases h), fun _ h => (by cases h)⟩, ?_, rfl, rfl, rfl⟩
        · simp only [bodyB, mg0, eq_false h1, eq_false h2, eq_true h3, if_true, if_false]
        · simp only [BodyOk, mg0, eq_false h1, eq_false h2, eq_true h3, if_true, if_false]
        · simp only [strip, mg0, eq_false h1, eq_false h2, eq_true h3, if_true, if_false]
      · rename_i h3
        split at h
        · rename_i h4
          obtain ⟨x, l2, e2, hx⟩ : ∃ x l2 e2, numS 1 7 l e = (x, l2, e2) := ⟨_, _, _, rfl⟩
          rw [hx] at h
          obtain ⟨y, l3, e3, hy⟩ : ∃ x l3 e3, rowF l2 e2 = (x, l3, e3) := ⟨_, _, _, rfl⟩
          simp only [hy, Prod.mk.injEq] at h
          obtain ⟨rfl, rfl, rfl⟩ := h
          obtain ⟨rfl, rfl, q⟩ := rowF_ok _ _ _ _ hy
          obtain ⟨rfl, rfl, p⟩ := small_ok (by omega) hx
          refine ⟨rfl, ?_, ?_, ⟨q.1, fun _ h => (by cases h), fun _ h => (by cases h)⟩, ?_, rfl, rfl, rfl⟩
          · simp only [bodyB, mg0, eq_false h1, eq_false h2, eq_false h3, eq_true h4, List.append_assoc, if_true, if_false]
          · simp only [BodyOk, mg0, eq_false h1, eq_false h2, eq_false h3, eq_true h4, if_true, if_false]; exact ⟨p, q.2⟩
          · simp only [strip, mg0, eq_false h1, eq_false h2, eq_false h3, eq_true h4, if_true, if_false]
        · rename_i h4
          split at h
          · rename_i h5
            obtain ⟨x, l2, e2, hx⟩ : ∃ x l2 e2, numS 1 4 l e = (x, l2, e2) := ⟨_, _, _, rfl⟩
            rw [hx] at h
            obtain ⟨y, l3, e3, hy⟩ : ∃ x l3 e3, cntF atF l2 e2 = (x, l3, e3) := ⟨_, _, _, rfl⟩
            simp only [hy] at h
            obtain ⟨z, l4, e4, hz⟩ : ∃ x l3' e3', cntF digF l3 e3 = (x, l3', e3') := ⟨_, _, _, rfl⟩
            simp only [hz, Prod.mk.injEq] at h
            obtain ⟨rfl, rfl, rfl⟩ := h
            obtain ⟨rfl, rfl, q1, q2⟩ := cntF_ok digF_ok hz
            obtain ⟨rfl, rfl, q3, q4⟩ := cntF_ok atF_ok hy
            obtain ⟨rfl, rfl, p⟩ := small_ok (by omega) hx
            refine ⟨rfl, ?_, ?_, ⟨z32, q2, fun _ h => (by cases h)⟩, ?_, rfl, rfl, rfl⟩
            · simp only [bodyB, mg0, eq_false h1, eq_false h2, eq_false h3, eq_false h4, eq_true h5, List.append_assoc, if_true, if_false]
            · simp only [BodyOk, mg0, eq_false h1, eq_false h2, eq_false h3, eq_false h4, eq_true h5, if_true, if_false]; exact ⟨p, ⟨q3, q4⟩, q1⟩
            · simp only [strip, mg0, eq_false h1, eq_false h2, eq_false h3, eq_false h4, eq_true h5, if_true, if_false]
          · rename_i h5
            split at h
            · rename_i h6
              obtain ⟨y, l3, e3, hy⟩ : ∃ x l3 e3, cntF atF l e = (x, l3, e3) := ⟨_, _, _, rfl⟩
              simp only [hy] at h
              obtain ⟨z, l4, e4, hz⟩ : ∃ x l3' e3', cntF rowF l3 e3 = (x, l3', e3') := ⟨_, _, _, rfl⟩
              simp only [hz, Prod.mk.injEq] at h
              obtain ⟨rfl, rfl, rfl⟩ := h
              obtain ⟨rfl, rfl, q1, q2⟩ := cntF_ok rowF_ok hz
              obtain ⟨rfl, rfl, q3, q4⟩ := cntF_ok atF_ok hy
              refine ⟨rfl, ?_, ?_, ⟨z32, fun _ h => (by cases h), fun r hr => (q2 r hr).1⟩, ?_, rfl, rfl, rfl⟩
              · simp only [bodyB, mg0, eq_false h1, eq_false h2, eq_false h3, eq_false h4, eq_false h5, eq_true h6, List.append_assoc, if_true, if_false]
              · simp only [BodyOk, mg0, eq_false h1, eq_false h2, eq_false h3, eq_false h4, eq_false h5, eq_true h6, if_true, if_false]; exact ⟨⟨q3, q4⟩, q1, fun r hr => (q2 r hr).2⟩
              · simp only [strip, mg0, eq_false h1, eq_false h2, eq_false h3, eq_false h4, eq_false h5, eq_true h6, if_true, if_false]
            · simp only [Prod.mk.injEq] at h
              exact absurd h.2.2 (by decide)
theorem rdBody_put {m : MgV} (h : BodyOk m) (hk : K32 m) (r : List UInt8) : rdBody m.kind m.frm m.ask (bodyB m ++ r) 0 = (strip m, r, 0) := by
  obtain ⟨k1, k2, k3⟩ := hk
  unfold BodyOk at h
  unfold rdBody strip bodyB
  split at h
  · rename_i h1
    simp only [eq_true h1, if_true, if_false]
    rw [rowF_put m.row r ⟨k1, h⟩]
  · rename_i h1
    simp only [eq_false h1, if_true, if_false]
    split at h
    · rename_i h2
      simp only [eq_true h2, if_true, if_false]
      rw [small_put h.1 h.2 h.2]
    · rename_i h2
      simp only [eq_false h2, if_true, if_false]
      split at h
      · rename_i h3
        simp only [eq_true h3, if_true, if_false]
        have e1 := fixSx_put m.row.key r
        rw [k1] at e1
        have e2 : fixS 32 (m.row.key ++ r) 0 = (m.row.key, r, 0) := e1
        rw [e2]
      · rename_i h3
        simp only [eq_false h3, if_true, if_false]
        split at h
        · rename_i h4
          simp only [eq_true h4, List.append_assoc, if_true, if_false]
          rw [small_put h.1.1 h.1.2 (by omega)]
          simp only [rowF_put m.row r ⟨k1, h.2⟩]
        · rename_i h4
          simp only [eq_false h4, if_true, if_false]
          split at h
          · rename_i h5
            simp only [eq_true h5, List.append_assoc, if_true, if_false]
            rw [small_put h.1.1 h.1.2 (by omega)]
            simp only
            rw [cntF_put atF_put _ h.2.1.1 h.2.1.2]
            simp only
            rw [cntF_put (P := fun x : List UInt8 => x.length = 32) digF_put _ h.2.2 k2]
          · rename_i h5
            simp only [eq_false h5, if_true, if_false]
            split at h
            · rename_i h6
              simp only [eq_true h6, List.append_assoc, if_true, if_false]
              rw [cntF_put atF_put _ h.1.1 h.1.2]
              simp only
              rw [cntF_put (P := KrOk) rowF_put _ h.2.1 (fun x hx => ⟨k3 x hx, h.2.2 x hx⟩)]
            · exact absurd h id
theorem rdMg_ok {l : List UInt8} {m : MgV} {r : List UInt8} {er : Int} (h : rdMg l = (m, r, er)) (he : endS r er = 0) : l = mgB m ∧ MgOk m ∧ K32 m ∧ strip m = m := by
  obtain ⟨rfl, rfl⟩ := endS_ok he
  obtain ⟨k, l1, e1, h1⟩ : ∃ a b c, numS 1 7 l 0 = (a, b, c) := ⟨_, _, _, rfl⟩
  obtain ⟨f, l2, e2, h2⟩ : ∃ a b c, numS 1 8 l1 e1 = (a, b, c) := ⟨_, _, _, rfl⟩
  obtain ⟨a, l3, e3, h3⟩ : ∃ a b c, numS 8 4611686018427387904 l2 e2 = (a, b, c) := ⟨_, _, _, rfl⟩
  rw [rdMg_of h1 h2 h3] at h
  obtain ⟨rfl, rfl, hb, hk, hs, rfl, rfl, rfl⟩ := rdBody_ok h
  obtain ⟨rfl, rfl, y3⟩ := num_ok h3
  obtain ⟨rfl, rfl, y2⟩ := small_ok (by omega) h2
  obtain ⟨_, rfl, y1⟩ := small_ok (by omega) h1
  refine ⟨by unfold mgB; rw [List.append_nil], ⟨⟨?_, y1.2⟩, y2, y3, hb⟩, hk, hs⟩
  rcases (by omega : m.kind = 0 ∨ 1 ≤ m.kind) with e | e
  · exfalso
    unfold BodyOk at hb
    simp [e] at hb
  · exact e
theorem rdMg_put {m : MgV} (h : MgOk m) (hk : K32 m) : rdMg (mgB m) = (strip m, [], 0) := by
  obtain ⟨⟨a1, a2⟩, ⟨b1, b2⟩, ⟨c1, c2⟩, hb⟩ := h
  unfold mgB
  rw [rdMg_of (small_put (by omega) a2 (by omega) _) (small_put b1 b2 (by omega) _) (num_put c1 c2 (by omega) _)]
  have := rdBody_put hb hk []
  rw [List.append_nil] at this
  exact this
theorem strip_ok {m : MgV} (h : MgOk m) (hk : K32 m) : mgB (strip m) = mgB m ∧ MgOk (strip m) ∧ K32 (strip m) ∧ strip (strip m) = strip m := by
  obtain ⟨a, b, c, d⟩ := rdMg_ok (rdMg_put h hk) rfl
  exact ⟨a.symm, b, c, d⟩
theorem rdMg_yes (l : List UInt8) : endS (rdMg l).2.1 (rdMg l).2.2 = 0 ↔ ∃ m, MgOk m ∧ K32 m ∧ l = mgB m := by
  constructor
  · intro h
    obtain ⟨a, b, c, d⟩ := rdMg_ok (l := l) (m := (rdMg l).1) rfl h
    exact ⟨_, b, c, a⟩
  · rintro ⟨m, a, b, rfl⟩
    rw [rdMg_put a b]
    rfl
end Go.Proofs.YtegfnlnbhhmkjaaDoor
