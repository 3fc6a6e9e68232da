/-
  Dots: is it one, which of two comes first; in the code's words.
-/
import Derived.Test.YtjflmfmncepeeaaFj
import Derived.Test.YtjflmfmncepeeaaQc
import Derived.Deep.DeepCutAuto
namespace Go.Proofs.Ytjflmfmncepeeaa
open Go.ChangeShapes Go.WideShapes Go.ChangeAt Go.RowKit
set_option linter.unusedVariables false
set_option linter.unusedSimpArgs false

theorem hidd_ {p : Prop} (h : p) : Hid p := h
/-- A dot: of which client, its number. -/
structure DotV where
  c : Int
  n : Int
deriving DecidableEq
def DotV.row (d : DotV) : Array Value := #[.int .i64 d.c, .int .i64 d.n]
def isC (z : Int) : Bool := decide (1 ≤ z ∧ z ≤ 16)
def isD (d : DotV) : Bool := decide ((1 ≤ d.c ∧ d.c ≤ 16) ∧ 1 ≤ d.n ∧ d.n ≤ 1099511627776)
def cmpI (a b : Int) : Int := if a < b then -1 else if b < a then 1 else 0
def cmpD (a b : DotV) : Int := if cmpI a.c b.c ≠ 0 then cmpI a.c b.c else cmpI a.n b.n

set_option maxRecDepth 100000 in
set_option maxHeartbeats 1000000 in
theorem isClient_any (w : World) (z : Int) : Calls Try.prog 35 #[.int .i64 z] w fun e w' => e = .returned (.bool (isC z)) ∧ w = w' := by
  obtain ⟨b, hb⟩ : ∃ b, isC z = b := ⟨_, rfl⟩
  rw [hb]
  unfold isC at hb
  by_cases h1 : 1 ≤ z
  · have d1 : decide (1 ≤ z) = true := decide_eq_true h1
    by_cases h2 : z ≤ 16
    · have d2 : decide (z ≤ 16) = true := decide_eq_true h2
      obtain rfl : true = b := by rw [← hb]; exact (decide_eq_true ⟨h1, h2⟩).symm
      clear hb
      go_enter Try.func35, Try.ntmps35
      go_wp2
      go_ret
      exact ⟨rfl, rfl⟩
    · have d2 : decide (z ≤ 16) = false := decide_eq_false h2
      obtain rfl : false = b := by rw [← hb]; exact (decide_eq_false (fun h => h2 h.2)).symm
      clear hb
      go_enter Try.func35, Try.ntmps35
      go_wp2
      go_ret
      exact ⟨rfl, rfl⟩
  · have d1 : decide (1 ≤ z) = false := decide_eq_false h1
    obtain rfl : false = b := by rw [← hb]; exact (decide_eq_false (fun h => h1 h.1)).symm
    clear hb
    go_enter Try.func35, Try.ntmps35
    go_wp2
    go_ret
    exact ⟨rfl, rfl⟩
set_option maxRecDepth 100000 in
set_option maxHeartbeats 1000000 in
theorem isDot_any (w : World) (d : DotV) : Calls Try.prog 36 #[.agg d.row] w fun e w' => e = .returned (.bool (isD d)) ∧ Below w.heap.size w w' := by
  obtain ⟨c, n⟩ := d
  have HB := hidd_ ((Below.refl w.heap.size w).alloc (Nat.le_refl _) (.cells #[.int .i64 c, .int .i64 n] 27))
  obtain ⟨b, hb⟩ : ∃ b, isD ⟨c, n⟩ = b := ⟨_, rfl⟩
  obtain ⟨q, hq⟩ : ∃ q, isC c = q := ⟨_, rfl⟩
  have cc := fun W => isClient_any W c
  rw [hb]
  unfold isD at hb
  rw [hq] at cc
  unfold isC at hq
  simp only at hb
  unfold DotV.row
  cases q
  · have h1 : ¬ (1 ≤ c ∧ c ≤ 16) := of_decide_eq_false hq
    obtain rfl : false = b := by rw [← hb]; exact (decide_eq_false (fun h => h1 h.1)).symm
    clear hb hq h1
    go_enter Try.func36, Try.ntmps36
    go_wp2_with (go_at_call 35; ((with_reducible refine (cc _).mono ?_); rintro e w2 ⟨rfl, rfl⟩))
    go_ret
    exact ⟨rfl, HB.out⟩
  · have h1 : 1 ≤ c ∧ c ≤ 16 := of_decide_eq_true hq
    by_cases h2 : 1 ≤ n
    · have d2 : decide (1 ≤ n) = true := decide_eq_true h2
      by_cases h3 : n ≤ 1099511627776
      · have d3 : decide (n ≤ 1099511627776) = true := decide_eq_true h3
        obtain rfl : true = b := by rw [← hb]; exact (decide_eq_true ⟨h1, h2, h3⟩).symm
        clear hb hq h1
        go_enter Try.func36, Try.ntmps36
        go_wp2_with (go_at_call 35; ((with_reducible refine (cc _).mono ?_); rintro e w2 ⟨rfl, rfl⟩))
        go_ret
        exact ⟨rfl, HB.out⟩
      · have d3 : decide (n ≤ 1099511627776) = false := decide_eq_false h3
        obtain rfl : false = b := by rw [← hb]; exact (decide_eq_false (fun h => h3 h.2.2)).symm
        clear hb hq h1
        go_enter Try.func36, Try.ntmps36
        go_wp2_with (go_at_call 35; ((with_reducible refine (cc _).mono ?_); rintro e w2 ⟨rfl, rfl⟩))
        go_ret
        exact ⟨rfl, HB.out⟩
    · have d2 : decide (1 ≤ n) = false := decide_eq_false h2
      obtain rfl : false = b := by rw [← hb]; exact (decide_eq_false (fun h => h2 h.2.1)).symm
      clear hb hq h1
      go_enter Try.func36, Try.ntmps36
      go_wp2_with (go_at_call 35; ((with_reducible refine (cc _).mono ?_); rintro e w2 ⟨rfl, rfl⟩))
      go_ret
      exact ⟨rfl, HB.out⟩
set_option maxRecDepth 100000 in
set_option maxHeartbeats 1000000 in
theorem nan_any (w : World) (z : Int) : Calls Try.prog 70 #[.int .i64 z] w fun e w' => e = .returned (.bool false) ∧ w = w' := by
  have h1 : (z == z) = true := by simp
  go_enter Try.func70, Try.ntmps70
  go_wp2
  go_ret
  exact ⟨by simp, rfl⟩
set_option maxRecDepth 100000 in
set_option maxHeartbeats 1000000 in
theorem compare_any (w : World) (a b : Int) : Calls Try.prog 58 #[.int .i64 a, .int .i64 b] w fun e w' => e = .returned (.int .i64 (cmpI a b)) ∧ w = w' := by
  have ca := fun W => nan_any W a
  have cb := fun W => nan_any W b
  by_cases h1 : a < b
  · have d1 : decide (a < b) = true := decide_eq_true h1
    rw [show cmpI a b = -1 from if_pos h1]
    go_enter Try.func58, Try.ntmps58
    go_wp2_with (first
      | (go_at_call 70; ((with_reducible refine (ca _).mono ?_); clear ca; rintro e w2 ⟨rfl, rfl⟩))
      | (go_at_call 70; ((with_reducible refine (cb _).mono ?_); clear cb; rintro e w2 ⟨rfl, rfl⟩)))
    go_ret
    exact ⟨rfl, rfl⟩
  · have d1 : decide (a < b) = false := decide_eq_false h1
    by_cases h2 : b < a
    · have d2 : decide (b < a) = true := decide_eq_true h2
      rw [show cmpI a b = 1 by unfold cmpI; rw [if_neg h1, if_pos h2]]
      go_enter Try.func58, Try.ntmps58
      go_wp2_with (first
        | (go_at_call 70; ((with_reducible refine (ca _).mono ?_); clear ca; rintro e w2 ⟨rfl, rfl⟩))
        | (go_at_call 70; ((with_reducible refine (cb _).mono ?_); clear cb; rintro e w2 ⟨rfl, rfl⟩)))
      go_ret
      exact ⟨rfl, rfl⟩
    · have d2 : decide (b < a) = false := decide_eq_false h2
      rw [show cmpI a b = 0 by unfold cmpI; rw [if_neg h1, if_neg h2]]
      go_enter Try.func58, Try.ntmps58
      go_wp2_with (first
        | (go_at_call 70; ((with_reducible refine (ca _).mono ?_); clear ca; rintro e w2 ⟨rfl, rfl⟩))
        | (go_at_call 70; ((with_reducible refine (cb _).mono ?_); clear cb; rintro e w2 ⟨rfl, rfl⟩)))
      go_ret
      exact ⟨rfl, rfl⟩
end Go.Proofs.Ytjflmfmncepeeaa
