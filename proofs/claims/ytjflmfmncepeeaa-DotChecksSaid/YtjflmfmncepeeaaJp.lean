/-
  A context read out of bytes, by values.
-/
import Derived.Test.YtjflmfmncepeeaaJo
import Derived.Test.YtjflmfmncepeeaaG9
namespace Go.Proofs.Ytjflmfmncepeeaa
set_option linter.unusedVariables false
set_option linter.unusedSimpArgs false

theorem highB_cons (n x : Nat) : highB (n + 1) x = UInt8.ofNat (x / 256 ^ n % 256) :: highB n x := by
  rw [highB, lowB_succ, List.reverse_append]
  rfl
theorem highB_add (b n y : Nat) : highB n (b * 256 ^ n + y) = highB n y := by
  unfold highB lowB
  congr 1
  apply List.map_congr_left
  intro i hi
  have hi := List.mem_range.1 hi
  obtain ⟨d, rfl⟩ : ∃ d, n = i + 1 + d := ⟨n - i - 1, by omega⟩
  have e : b * 256 ^ (i + 1 + d) + y = 256 ^ i * (256 * (256 ^ d * b)) + y := by
    rw [Nat.pow_add, Nat.pow_succ]
    congr 1
    rw [Nat.mul_comm b, Nat.mul_assoc, Nat.mul_assoc]
  rw [e, Nat.mul_add_div (Nat.pow_pos (by omega)), Nat.mul_add_mod]
theorem high_beN : ∀ l : List UInt8, highB l.length (beN l) = l
  | [] => rfl
  | b :: l => by
    have ih := high_beN l
    have hlt := beN_lt l
    rw [List.length_cons, beN_cons, highB_cons, highB_add, ih]
    congr 1
    have hb := b.toNat_lt
    rw [Nat.mul_comm, Nat.mul_add_div (Nat.pow_pos (by omega)), Nat.div_eq_of_lt hlt, Nat.add_zero, Nat.mod_eq_of_lt (by omega)]
    simp
/-- A number that is taken: what stood there. -/
theorem numS_ok {most : Int} {l r : List UInt8} {e v : Int} (h : numS 8 most l e = (v, r, 0)) : e = 0 ∧ l = highB 8 v.toNat ++ r ∧ 0 ≤ v ∧ v ≤ most := by
  unfold numS at h
  split at h
  · rename_i h1
    injection h with _ h
    injection h with _ h
    exact absurd h h1
  · rename_i h1
    split at h
    · injection h with _ h
      injection h with _ h
      cases h
    · rename_i h2
      split at h
      · injection h with _ h
        injection h with _ h
        cases h
      · rename_i h3
        injection h with h4 h
        injection h with h5 h
        subst h4 h5
        have hl : (l.take 8).length = 8 := by rw [List.length_take]; omega
        have := high_beN (l.take 8)
        rw [hl] at this
        refine ⟨by omega, ?_, by omega, by omega⟩
        rw [Int.toNat_natCast, this, List.take_append_drop]
theorem numS_put {most : Int} {v : Int} (h0 : 0 ≤ v) (h1 : v ≤ most) (h2 : v ≤ 1099511627776) (r : List UInt8) : numS 8 most (highB 8 v.toNat ++ r) 0 = (v, r, 0) := by
  have hl := highB_len 8 v.toNat
  have ht : (highB 8 v.toNat ++ r).take 8 = highB 8 v.toNat := List.take_left' hl
  have hb : beN (highB 8 v.toNat) = v.toNat := by rw [beN_highB]; exact Nat.mod_eq_of_lt (by omega)
  rw [numS_yes (by rw [List.length_append, hl]; omega) (by rw [ht, hb]; omega), ht, hb, List.drop_left' hl]
  congr 1
  omega
theorem numS_off0 {size : Nat} {most : Int} {l : List UInt8} {e : Int} (h : e ≠ 0) : (numS size most l e).2.2 ≠ 0 := by rw [numS_off h]; exact h
def far : Int := 1099511627776
def rdU (l : List UInt8) : Nat → List Int × List UInt8 × Int
  | 0 => ([], l, 0)
  | k + 1 => ((rdU l k).1 ++ [(numS 8 far (rdU l k).2.1 (rdU l k).2.2).1], (numS 8 far (rdU l k).2.1 (rdU l k).2.2).2.1, (numS 8 far (rdU l k).2.1 (rdU l k).2.2).2.2)
theorem rdU_len (l : List UInt8) : ∀ k, (rdU l k).1.length = k
  | 0 => rfl
  | k + 1 => by rw [rdU]; simp [rdU_len l k]
theorem rdU_ok (l : List UInt8) : ∀ k, (rdU l k).2.2 = 0 → l = numsB (rdU l k).1 ++ (rdU l k).2.1
  | 0, _ => rfl
  | k + 1, h => by
    rw [rdU] at h ⊢
    simp only at h ⊢
    obtain ⟨v, r, e, hn⟩ : ∃ v r e, numS 8 far (rdU l k).2.1 (rdU l k).2.2 = (v, r, e) := ⟨_, _, _, rfl⟩
    rw [hn] at h ⊢
    simp only at h ⊢
    subst h
    obtain ⟨h1, h2, _⟩ := numS_ok hn
    have ih := rdU_ok l k h1
    conv => lhs; rw [ih, h2]
    unfold numsB
    rw [List.flatMap_append]
    simp
theorem rdU_put {up : List Int} (hu : ∀ z ∈ up, 0 ≤ z ∧ z ≤ 1099511627776) (r : List UInt8) : ∀ k, k ≤ up.length → rdU (numsB up ++ r) k = (up.take k, numsB (up.drop k) ++ r, 0)
  | 0, _ => rfl
  | k + 1, hk => by
    have ih := rdU_put hu r k (by omega)
    have hk2 : k < up.length := by omega
    have hd : up.drop k = up[k] :: up.drop (k + 1) := List.drop_eq_getElem_cons hk2
    obtain ⟨b1, b2⟩ := hu _ (List.getElem_mem hk2)
    have hn : numS 8 far (numsB (up.drop k) ++ r) 0 = (up[k], numsB (up.drop (k + 1)) ++ r, 0) := by
      rw [hd]
      unfold numsB
      rw [List.flatMap_cons, List.append_assoc]
      exact numS_put b1 (by unfold far; exact b2) b2 _
    rw [rdU, ih]
    simp only [hn]
    rw [List.take_succ_eq_append_getElem hk2]
def rdD (most : Int) (l : List UInt8) (e : Int) : Nat → List DotV × List UInt8 × Int
  | 0 => ([], l, e)
  | k + 1 => ((rdD most l e k).1 ++ [⟨(numS 8 most (rdD most l e k).2.1 (rdD most l e k).2.2).1, (numS 8 far (numS 8 most (rdD most l e k).2.1 (rdD most l e k).2.2).2.1 (numS 8 most (rdD most l e k).2.1 (rdD most l e k).2.2).2.2).1⟩],
      (numS 8 far (numS 8 most (rdD most l e k).2.1 (rdD most l e k).2.2).2.1 (numS 8 most (rdD most l e k).2.1 (rdD most l e k).2.2).2.2).2.1, (numS 8 far (numS 8 most (rdD most l e k).2.1 (rdD most l e k).2.2).2.1 (numS 8 most (rdD most l e k).2.1 (rdD most l e k).2.2).2.2).2.2)
theorem rdD_len (most : Int) (l : List UInt8) (e : Int) : ∀ k, (rdD most l e k).1.length = k
  | 0 => rfl
  | k + 1 => by rw [rdD]; simp [rdD_len most l e k]
theorem rdD_ok (most : Int) (l : List UInt8) (e : Int) : ∀ k, (rdD most l e k).2.2 = 0 → e = 0 ∧ l = dotsB (rdD most l e k).1 ++ (rdD most l e k).2.1
  | 0, h => ⟨h, rfl⟩
  | k + 1, h => by
    rw [rdD] at h ⊢
    simp only at h ⊢
    obtain ⟨v, r, e1, hn⟩ : ∃ v r e1, numS 8 most (rdD most l e k).2.1 (rdD most l e k).2.2 = (v, r, e1) := ⟨_, _, _, rfl⟩
    rw [hn] at h ⊢
    simp only at h ⊢
    obtain ⟨v', r', e', hn'⟩ : ∃ v' r' e', numS 8 far r e1 = (v', r', e') := ⟨_, _, _, rfl⟩
    rw [hn'] at h ⊢
    simp only at h ⊢
    subst h
    obtain ⟨h1, h2, _⟩ := numS_ok hn'
    subst h1
    obtain ⟨h3, h4, _⟩ := numS_ok hn
    obtain ⟨h5, ih⟩ := rdD_ok most l e k h3
    refine ⟨h5, ?_⟩
    conv => lhs; rw [ih, h4, h2]
    unfold dotsB
    rw [List.flatMap_append]
    simp
theorem rdD_put {most : Int} {ms : List DotV} (hm : ∀ d ∈ ms, isD d = true ∧ d.c ≤ most) (r : List UInt8) : ∀ k, k ≤ ms.length → rdD most (dotsB ms ++ r) 0 k = (ms.take k, dotsB (ms.drop k) ++ r, 0)
  | 0, _ => rfl
  | k + 1, hk => by
    have ih := rdD_put hm r k (by omega)
    have hk2 : k < ms.length := by omega
    have hd : ms.drop k = ms[k] :: ms.drop (k + 1) := List.drop_eq_getElem_cons hk2
    obtain ⟨b1, b2⟩ := hm _ (List.getElem_mem hk2)
    have b3 := isD_iff.1 b1
    have hn : numS 8 most (dotsB (ms.drop k) ++ r) 0 = (ms[k].c, highB 8 ms[k].n.toNat ++ (dotsB (ms.drop (k + 1)) ++ r), 0) := by
      rw [hd]
      unfold dotsB
      rw [List.flatMap_cons, List.append_assoc, List.append_assoc]
      exact numS_put (by omega) b2 (by omega) _
    have hn' := numS_put (most := far) (v := ms[k].n) (by omega) (by unfold far; omega) (by omega) (dotsB (ms.drop (k + 1)) ++ r)
    rw [rdD, ih]
    simp only [hn, hn']
    rw [List.take_succ_eq_append_getElem hk2]
theorem rdD_stop {most : Int} {l : List UInt8} {e : Int} : ∀ k j, (rdD most l e k).2.2 ≠ 0 → k ≤ j → (rdD most l e j).2.2 ≠ 0
  | k, 0, h, hj => by
    obtain rfl : k = 0 := by omega
    exact h
  | k, j + 1, h, hj => by
    rcases Nat.lt_or_ge j k with h1 | h1
    · obtain rfl : k = j + 1 := by omega
      exact h
    · have ih := rdD_stop k j h h1
      rw [rdD]
      exact numS_off0 (numS_off0 ih)
/-- These bytes are just that context's. -/
def RdOk (l : List UInt8) (up : List Int) (ms : List DotV) : Prop := up.length = 16 ∧ chk up ms = 0 ∧ l = wrB up ms
/-- What is read, with the counts of clients up to most. -/
def rdAll (most : Int) (l : List UInt8) : List Int × List DotV × List UInt8 × Int :=
  ((rdU l 16).1, rdD most (numS 1 32 (rdU l 16).2.1 (rdU l 16).2.2).2.1 (numS 1 32 (rdU l 16).2.1 (rdU l 16).2.2).2.2 (numS 1 32 (rdU l 16).2.1 (rdU l 16).2.2).1.toNat)
theorem numS1_ok {l r : List UInt8} {e v : Int} (h : numS 1 32 l e = (v, r, 0)) : e = 0 ∧ l = UInt8.ofNat v.toNat :: r ∧ 0 ≤ v ∧ v ≤ 32 := by
  unfold numS at h
  split at h
  · rename_i h1
    injection h with _ h
    injection h with _ h
    exact absurd h h1
  · rename_i h1
    split at h
    · injection h with _ h
      injection h with _ h
      cases h
    · rename_i h2
      split at h
      · injection h with _ h
        injection h with _ h
        cases h
      · rename_i h3
        injection h with h4 h
        injection h with h5 h
        subst h4 h5
        cases l with
        | nil => simp at h2
        | cons b l =>
          have e1 : beN ((b :: l).take 1) = b.toNat := by simp [beN]
          rw [e1] at h3 ⊢
          refine ⟨by omega, ?_, by omega, by omega⟩
          simp
theorem rdAll_ok {most : Int} {l : List UInt8} (h : endS (rdAll most l).2.2.1 (rdAll most l).2.2.2 = 0) (hc : chk (rdAll most l).1 (rdAll most l).2.1 = 0) : RdOk l (rdAll most l).1 (rdAll most l).2.1 := by
  refine ⟨rdU_len l 16, hc, ?_⟩
  unfold rdAll at h hc ⊢
  simp only at h hc ⊢
  obtain ⟨v, r, e, hn⟩ : ∃ v r e, numS 1 32 (rdU l 16).2.1 (rdU l 16).2.2 = (v, r, e) := ⟨_, _, _, rfl⟩
  rw [hn] at h hc ⊢
  simp only at h hc ⊢
  unfold endS at h
  split at h
  · rename_i h1; exact absurd h h1
  · rename_i h1
    split at h
    · cases h
    · rename_i h2
      obtain ⟨rfl, h4⟩ := rdD_ok most r e v.toNat (by omega)
      obtain ⟨h5, h6, h7, h8⟩ := numS1_ok hn
      have h9 := rdU_ok l 16 h5
      have hr : (rdD most r 0 v.toNat).2.1 = [] := List.eq_nil_of_length_eq_zero (by omega)
      rw [hr, List.append_nil] at h4
      unfold wrB
      rw [rdD_len, ← h4, ← h6]
      exact h9
theorem rdAll_put {most : Int} {up : List Int} {ms : List DotV} (hm : 16 ≤ most) (hu : up.length = 16) (hc : chk up ms = 0) : rdAll most (wrB up ms) = (up, ms, [], 0) := by
  obtain ⟨hcan, hl⟩ := chk_can hu hc
  have hU := rdU_put (up := up) (fun z hz => by
    obtain ⟨k, hk, e⟩ := List.mem_iff_getElem.1 hz
    have := hcan.up16.2 k
    rw [List.getD, List.getElem?_eq_getElem hk, Option.getD_some, e] at this
    exact this) (UInt8.ofNat ms.length :: dotsB ms) 16 (by omega)
  rw [List.take_of_length_le (by omega), List.drop_of_length_le (by omega)] at hU
  have hU2 : rdU (wrB up ms) 16 = (up, UInt8.ofNat ms.length :: dotsB ms, 0) := hU
  have hn : numS 1 32 (UInt8.ofNat ms.length :: dotsB ms) 0 = ((ms.length : Int), dotsB ms, 0) := by
    have e1 : beN ((UInt8.ofNat ms.length :: dotsB ms).take 1) = ms.length := by simp [beN]; omega
    rw [numS_yes (by simp) (by rw [e1]; omega), e1]
    rfl
  have hD := rdD_put (most := most) (ms := ms) (fun d hd => ⟨hcan.dots d hd, by have := isD_iff.1 (hcan.dots d hd); omega⟩) [] ms.length (Nat.le_refl _)
  rw [List.append_nil, List.take_length, List.drop_length] at hD
  unfold rdAll
  rw [hU2]
  simp only [hn, Int.toNat_natCast]
  rw [hD]
  rfl
theorem rdOk_one {l : List UInt8} {up up' : List Int} {ms ms' : List DotV} (h : RdOk l up ms) (h' : RdOk l up' ms') : up = up' ∧ ms = ms' := by
  have e1 := rdAll_put (most := 16) (by omega) h.1 h.2.1
  have e2 := rdAll_put (most := 16) (by omega) h'.1 h'.2.1
  rw [← h.2.2] at e1
  rw [← h'.2.2, e1] at e2
  injection e2 with a b
  injection b with b c
  exact ⟨a, b⟩
/-- What is told of bytes by a reader. -/
def ReadV (l : List UInt8) (u : List Int) (m : List DotV) (ok : Bool) : Prop :=
  (ok = true ∧ RdOk l u m) ∨ (ok = false ∧ u = List.replicate 16 0 ∧ m = [] ∧ ∀ up ms, ¬ RdOk l up ms)
theorem readV_one {l : List UInt8} {u u' : List Int} {m m' : List DotV} {ok ok' : Bool} (h : ReadV l u m ok) (h' : ReadV l u' m' ok') : u = u' ∧ m = m' ∧ ok = ok' := by
  rcases h with ⟨rfl, h⟩ | ⟨rfl, rfl, rfl, h⟩ <;> rcases h' with ⟨rfl, h'⟩ | ⟨rfl, rfl, rfl, h'⟩
  · exact ⟨(rdOk_one h h').1, (rdOk_one h h').2, rfl⟩
  · exact absurd h (h' _ _)
  · exact absurd h' (h _ _)
  · exact ⟨rfl, rfl, rfl⟩
end Go.Proofs.Ytjflmfmncepeeaa
