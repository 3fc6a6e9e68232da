/-
  Proved: for all numbers and bytes CodecLimits answers true: a number above its most is refused, and stays; at it, it is taken. No condition.
-/
import Derived.Test.YtopmngjaieobnaaG8
import Derived.Test.YtopmngjaieobnaaLp
import Derived.Deep.DeepCutAuto
namespace Go.Proofs.Ytopmngjaieobnaa.codecLimits
open Go.ChangeShapes Go.WideShapes Go.ChangeAt Go.RowKit
set_option linter.unusedVariables false
set_option linter.unusedSimpArgs false

theorem hid_ {p : Prop} (h : p) : Hid p := h
theorem below_unt {w w1 w2 : World} {B : Nat} {F : List Nat} (hx : Below B w w1) (hB : B ≤ w.heap.size) (hu : Untouched F w1 w2) (hF : ∀ k ∈ F, B ≤ k) : Below B w w2 := hx.trans (hu.below hF (Nat.le_trans hB hx.size))
theorem grew_ge {w1 : World} {B : Nat} {F F2 : List Nat} (hG : Grew w1 F F2) (hF : ∀ k ∈ F, B ≤ k) (hB : B ≤ w1.heap.size) : ∀ k ∈ F2, B ≤ k := fun k hk => by
  rcases hG k hk with h | h
  · exact hF k h
  · omega
theorem take_num (k : Nat) (hk : k ≤ 9223372036854775807) (r : List UInt8) : beN ((highB 8 k ++ r).take 8) = k ∧ (highB 8 k ++ r).drop 8 = r := by
  have e : (highB 8 k).length = 8 := highB_len 8 k
  have h1 : (highB 8 k ++ r).take 8 = highB 8 k := List.take_left' e
  have h2 : (highB 8 k ++ r).drop 8 = r := List.drop_left' e
  refine ⟨?_, h2⟩
  rw [h1, beN_highB]
  have : (256 : Nat) ^ 8 = 18446744073709551616 := by decide
  omega
theorem take_cnt (k : Nat) (hk : k ≤ 100) (r : List UInt8) : beN ((highB 4 k ++ r).take 4) = k ∧ (highB 4 k ++ r).drop 4 = r := by
  have e : (highB 4 k).length = 4 := highB_len 4 k
  have h1 : (highB 4 k ++ r).take 4 = highB 4 k := List.take_left' e
  have h2 : (highB 4 k ++ r).drop 4 = r := List.drop_left' e
  refine ⟨?_, h2⟩
  rw [h1, beN_highB]
  have : (256 : Nat) ^ 4 = 4294967296 := by decide
  omega
theorem fix_all (m : Nat) (t : List UInt8) (h : t.length = m) : fixS (m : Int) t 0 = (t, [], 0) := by
  subst h
  by_cases h0 : t.length = 0
  · have : t = [] := List.eq_nil_of_length_eq_zero h0
    subst this
    rfl
  · rw [fixS_yes (by omega) (Nat.le_refl _), List.take_length, List.drop_length]

set_option maxRecDepth 100000 in
set_option maxHeartbeats 4000000 in
theorem walk_neg (w : World) (n most : Int) (A : Option Addr) (l : List UInt8) (c : Nat) (hr : Rd w w.heap.size A l) (hlc : l.length ≤ c) (hcm : c ≤ 9223372036854775807) (hneg : n < 0) :
    Calls Try.prog 13 #[.int .i64 n, .int .i64 most, .slice A l.length c] w fun e w' => e = .returned (.bool true) ∧ Below w.heap.size w w' := by
  obtain ⟨m, hm⟩ : ∃ m, m = min l.length 100 := ⟨_, rfl⟩
  have hm1 := fun W => run_min2 l.length 100 m hm W
  rw [show ((100 : Nat) : Int) = 100 from rfl] at hm1
  have hs1 := fun W => slice_to A l.length c (m : Int) m rfl (by omega) W
  have HM0 : (l.take 100).length = m := by rw [List.length_take, hm, Nat.min_comm]
  have HR := hid_ (hr.take 100)
  have m100 : m ≤ 100 := by omega
  generalize l.take 100 = t at *
  have HM := hid_ HM0
  have HMin := hid_ hm
  have HE1 : Hid (∀ k ∈ [w.heap.size], w.heap.size ≤ k) := hid_ (by simp)
  have HB1 := hid_ ((Below.refl w.heap.size w).alloc (Nat.le_refl _) (.cells #[.pointer none, .int .i64 0, .bool false] 54))
  clear hr hlc hcm hm HM0
  have hd1 : decide (n < 0) = true := decide_eq_true hneg
  have hd2 : decide (0 ≤ n) = false := decide_eq_false (by omega)
  have HS : Hid (([] : List UInt8).length + 4 + m ≤ 140737488355328) := hid_ (by simp [highB_len] <;> omega)
  obtain ⟨L, hL⟩ : ∃ L, Hid (([] : List UInt8) ++ highB 4 m ++ t = L) := ⟨_, hid_ rfl⟩
  obtain ⟨N, hN⟩ : ∃ N, 4 + m = N := ⟨_, rfl⟩
  have HN : Hid (L.length = N) := hid_ (by rw [← hL.out, ← hN]; simp [highB_len, HM.out] <;> omega)
  have hNb : N ≤ 140737488355328 := by omega
  have hw4 : IntKind.i64.wrap (4 + (m : Int)) = (N : Int) := by rw [IntWalk.i64_in _ (by omega)]; omega
  obtain ⟨L1, hL1⟩ : ∃ L1, Hid (([] : List UInt8) = L1) := ⟨_, hid_ rfl⟩
  obtain ⟨bad, hbad⟩ : ∃ b, Hid (true = b) := ⟨_, hid_ rfl⟩
  have c1 := num_neg _ _ [] false _ n (OutF.zero w) hneg
  have hcode : (if bad = true then (1 : Int) else 0) = 1 := by rw [← hbad.out]; rfl
  rw [hL1.out] at c1 hL HS
  rw [hbad.out] at c1
  clear hN hneg
  go_enter Try.func13, Try.ntmps13
  go_wp2_with (first
    | (go_at_call 24; ((with_reducible refine c1.mono ?_); rintro e w2 ⟨rfl, F2, hO2, hG2, hU2⟩; have O2 := hid_ hO2; have E2 := hid_ (grew_ge hG2 HE1.out (by simp)); have X2 := hid_ (below_unt HB1.out (Nat.le_refl _) hU2 HE1.out); clear hO2 hG2 hU2))
    | (go_at_call 27; have cp := bytes_any w2 w.heap.size L1 bad F2 A m c t O2.out ((HR.out.below X2.out).rdf X2.out.size E2.out) HM.out HS.out; rw [hL.out] at cp; ((with_reducible refine cp.mono ?_); clear cp; rintro e w3 ⟨rfl, F3, hO3, hG3, hU3⟩; have O3 := hid_ hO3; have X3 := hid_ (below_unt X2.out (Nat.le_refl _) hU3 E2.out); clear hO3 hG3 hU3))
    | (go_at_call 22; have cp := done_any w3 w.heap.size N L bad F3 O3.out HN.out hNb; ((with_reducible refine cp.mono ?_); clear cp; rintro e w4 ⟨A4, c4, rfl, hO4, hB4⟩; have O4 := hid_ hO4; have X4 := hid_ (X3.out.trans (hB4.mono X3.out.size)); clear hO4 hB4))
    | (go_at_call 23; have cp := codes_any w4; ((with_reducible refine cp.mono ?_); clear cp; rintro e w5 ⟨rfl, hB5⟩; have O5 := hid_ (O4.out.below hB5 (Nat.le_refl _)); have X5 := hid_ (X4.out.trans (hB5.mono X4.out.size)); clear hB5)))
  go_ret
  exact ⟨rfl, X5.out⟩

set_option maxRecDepth 100000 in
set_option maxHeartbeats 4000000 in
theorem walk_big (w : World) (k : Nat) (most : Int) (A : Option Addr) (l : List UInt8) (c : Nat) (hr : Rd w w.heap.size A l) (hlc : l.length ≤ c) (hcm : c ≤ 9223372036854775807) (hk : k ≤ 9223372036854775807) (hp0 : -9223372036854775808 ≤ most) (hp1 : most ≤ 9223372036854775807) (hbig : most < (k : Int)) :
    Calls Try.prog 13 #[.int .i64 (k : Int), .int .i64 most, .slice A l.length c] w fun e w' => e = .returned (.bool true) ∧ Below w.heap.size w w' := by
  obtain ⟨m, hm⟩ : ∃ m, m = min l.length 100 := ⟨_, rfl⟩
  have hm1 := fun W => run_min2 l.length 100 m hm W
  rw [show ((100 : Nat) : Int) = 100 from rfl] at hm1
  have hs1 := fun W => slice_to A l.length c (m : Int) m rfl (by omega) W
  have HM0 : (l.take 100).length = m := by rw [List.length_take, hm, Nat.min_comm]
  have HR := hid_ (hr.take 100)
  have m100 : m ≤ 100 := by omega
  generalize l.take 100 = t at *
  have HM := hid_ HM0
  have HMin := hid_ hm
  have HE1 : Hid (∀ k ∈ [w.heap.size], w.heap.size ≤ k) := hid_ (by simp)
  have HB1 := hid_ ((Below.refl w.heap.size w).alloc (Nat.le_refl _) (.cells #[.pointer none, .int .i64 0, .bool false] 54))
  clear hr hlc hcm hm HM0
  have hd1 : decide ((k : Int) < 0) = false := decide_eq_false (by omega)
  have hd2 : decide (0 ≤ (k : Int)) = true := decide_eq_true (by omega)
  have HS : Hid (([] ++ highB 8 k : List UInt8).length + 4 + m ≤ 140737488355328) := hid_ (by simp [highB_len] <;> omega)
  obtain ⟨L, hL⟩ : ∃ L, Hid (([] ++ highB 8 k : List UInt8) ++ highB 4 m ++ t = L) := ⟨_, hid_ rfl⟩
  obtain ⟨N, hN⟩ : ∃ N, 12 + m = N := ⟨_, rfl⟩
  have HN : Hid (L.length = N) := hid_ (by rw [← hL.out, ← hN]; simp [highB_len, HM.out] <;> omega)
  have hNb : N ≤ 140737488355328 := by omega
  have c1 := num_any _ _ [] false _ k (OutF.zero w) hk (by decide)
  have TN := take_num k hk (highB 4 m ++ t)
  have TC := take_cnt m m100 t
  have hL0 : L = highB 8 k ++ (highB 4 m ++ t) := by rw [← hL.out]; simp
  have hlen : ¬ L.length < 8 := by rw [HN.out]; omega
  rw [← hL0] at TN
  obtain ⟨L1, hL1⟩ : ∃ L1, Hid (([] : List UInt8) ++ highB 8 k = L1) := ⟨_, hid_ rfl⟩
  obtain ⟨bad, hbad⟩ : ∃ b, Hid (false = b) := ⟨_, hid_ rfl⟩
  have hcode : (if bad = true then (1 : Int) else 0) = 0 := by rw [← hbad.out]; rfl
  rw [hL1.out] at c1 hL HS
  have c1' : Calls Try.prog 24 #[.pointer (some ⟨w.heap.size, 0, none⟩), .int .i64 (k : Int)] (w.alloc (.cells #[.pointer none, .int .i64 0, .bool false] 54)) (OutP (w.alloc (.cells #[.pointer none, .int .i64 0, .bool false] 54)) w.heap.size L1 bad [w.heap.size]) := by rw [← hbad.out]; exact c1
  clear c1
  have c1 := c1'
  clear c1'
  have hd3 : decide (most < (k : Int)) = true := decide_eq_true hbig
  obtain ⟨x7, L7, e7, hx7, hL7e, he7⟩ : ∃ x7 L7 e7, x7 = (0 : Int) ∧ L7 = L ∧ e7 = (5 : Int) := ⟨_, _, _, rfl, rfl, rfl⟩
  have HQ : Hid (numS 8 most L 0 = (x7, L7, e7)) := hid_ (by rw [numS_big hlen (by rw [TN.1]; exact hbig), hx7, hL7e, he7])
  have HZ : Hid (endS L7 e7 = 5) := hid_ (by rw [he7]; rfl)
  have hx0 : (x7 == 0) = true := by rw [hx7]; rfl
  clear TN TC hL0 hlen hx7 hL7e he7 hbig hN
  go_enter Try.func13, Try.ntmps13
  go_wp2_with (first
    | (go_at_call 24; ((with_reducible refine c1.mono ?_); rintro e w2 ⟨rfl, F2, hO2, hG2, hU2⟩; have O2 := hid_ hO2; have E2 := hid_ (grew_ge hG2 HE1.out (by simp)); have X2 := hid_ (below_unt HB1.out (Nat.le_refl _) hU2 HE1.out); clear hO2 hG2 hU2))
    | (go_at_call 27; have cp := bytes_any w2 w.heap.size L1 bad F2 A m c t O2.out ((HR.out.below X2.out).rdf X2.out.size E2.out) HM.out HS.out; rw [hL.out] at cp; ((with_reducible refine cp.mono ?_); clear cp; rintro e w3 ⟨rfl, F3, hO3, hG3, hU3⟩; have O3 := hid_ hO3; have X3 := hid_ (below_unt X2.out (Nat.le_refl _) hU3 E2.out); clear hO3 hG3 hU3))
    | (go_at_call 22; have cp := done_any w3 w.heap.size N L bad F3 O3.out HN.out hNb; ((with_reducible refine cp.mono ?_); clear cp; rintro e w4 ⟨A4, c4, rfl, hO4, hB4⟩; have O4 := hid_ hO4; have X4 := hid_ (X3.out.trans (hB4.mono X3.out.size)); clear hO4 hB4))
    | (go_at_call 23; have cp := codes_any w4; ((with_reducible refine cp.mono ?_); clear cp; rintro e w5 ⟨rfl, hB5⟩; have O5 := hid_ (O4.out.below hB5 (Nat.le_refl _)); have X5 := hid_ (X4.out.trans (hB5.mono X4.out.size)); clear hB5))
    | (go_at_call 34; have cp := of_any w5 A4 N c4 L HN.out O5.out.rd.1 hNb; ((with_reducible refine cp.mono ?_); clear cp; rintro e w6 ⟨g6, F6, rfl, hI6, hF6, hB6⟩; have I6 := hid_ hI6; have G6 := hid_ (show ∀ k ∈ [g6], w.heap.size ≤ k from fun k hk => by have h1 := X5.out.size; rcases List.mem_singleton.1 hk with rfl; have := (hF6 k hI6.1).1; omega); have X6 := hid_ (X5.out.trans (hB6.mono X5.out.size)); clear hI6 hF6 hB6))
    | (go_at_call 29; have cp : Calls Try.prog 29 #[.pointer (some ⟨g6, 0, none⟩), .int .i64 (most)] w6 (fun e w' => e = .returned (.int .i64 x7) ∧ InF w' g6 L7 e7 F6 ∧ Untouched [g6] w6 w') := (innum_any w6 g6 (most) L 0 F6 I6.out hp0 hp1).mono fun e w' h => (by unfold NumP at h; rw [HQ.out] at h; exact h); ((with_reducible refine cp.mono ?_); clear cp; rintro e w7 ⟨rfl, hI7, hU7⟩; have I7 := hid_ hI7; have X7 := hid_ (below_unt X6.out (Nat.le_refl _) hU7 G6.out); clear hI7 hU7))
    | (go_at_call 33; have cp := end_any w7 g6 L7 e7 F6 I7.out; rw [HZ.out] at cp; ((with_reducible refine cp.mono ?_); clear cp; rintro e w9 ⟨rfl, rfl⟩)))
  go_ret
  exact ⟨rfl, X7.out⟩

set_option maxRecDepth 100000 in
set_option maxHeartbeats 4000000 in
theorem walk_many (w : World) (k p : Nat) (A : Option Addr) (l : List UInt8) (c : Nat) (hr : Rd w w.heap.size A l) (hlc : l.length ≤ c) (hcm : c ≤ 9223372036854775807) (hk : k ≤ 9223372036854775807) (hp : p ≤ 9223372036854775807) (hkp : k ≤ p) (hmany : p % 120 < min l.length 100) :
    Calls Try.prog 13 #[.int .i64 (k : Int), .int .i64 (p : Int), .slice A l.length c] w fun e w' => e = .returned (.bool true) ∧ Below w.heap.size w w' := by
  obtain ⟨m, hm⟩ : ∃ m, m = min l.length 100 := ⟨_, rfl⟩
  have hm1 := fun W => run_min2 l.length 100 m hm W
  rw [show ((100 : Nat) : Int) = 100 from rfl] at hm1
  have hs1 := fun W => slice_to A l.length c (m : Int) m rfl (by omega) W
  have HM0 : (l.take 100).length = m := by rw [List.length_take, hm, Nat.min_comm]
  have HR := hid_ (hr.take 100)
  have m100 : m ≤ 100 := by omega
  generalize l.take 100 = t at *
  have HM := hid_ HM0
  have HMin := hid_ hm
  have HE1 : Hid (∀ k ∈ [w.heap.size], w.heap.size ≤ k) := hid_ (by simp)
  have HB1 := hid_ ((Below.refl w.heap.size w).alloc (Nat.le_refl _) (.cells #[.pointer none, .int .i64 0, .bool false] 54))
  clear hr hlc hcm hm HM0
  have hd1 : decide ((k : Int) < 0) = false := decide_eq_false (by omega)
  have hd2 : decide (0 ≤ (k : Int)) = true := decide_eq_true (by omega)
  have HS : Hid (([] ++ highB 8 k : List UInt8).length + 4 + m ≤ 140737488355328) := hid_ (by simp [highB_len] <;> omega)
  obtain ⟨L, hL⟩ : ∃ L, Hid (([] ++ highB 8 k : List UInt8) ++ highB 4 m ++ t = L) := ⟨_, hid_ rfl⟩
  obtain ⟨N, hN⟩ : ∃ N, 12 + m = N := ⟨_, rfl⟩
  have HN : Hid (L.length = N) := hid_ (by rw [← hL.out, ← hN]; simp [highB_len, HM.out] <;> omega)
  have hNb : N ≤ 140737488355328 := by omega
  have c1 := num_any _ _ [] false _ k (OutF.zero w) hk (by decide)
  have TN := take_num k hk (highB 4 m ++ t)
  have TC := take_cnt m m100 t
  have hL0 : L = highB 8 k ++ (highB 4 m ++ t) := by rw [← hL.out]; simp
  have hlen : ¬ L.length < 8 := by rw [HN.out]; omega
  rw [← hL0] at TN
  obtain ⟨L1, hL1⟩ : ∃ L1, Hid (([] : List UInt8) ++ highB 8 k = L1) := ⟨_, hid_ rfl⟩
  obtain ⟨bad, hbad⟩ : ∃ b, Hid (false = b) := ⟨_, hid_ rfl⟩
  have hcode : (if bad = true then (1 : Int) else 0) = 0 := by rw [← hbad.out]; rfl
  rw [hL1.out] at c1 hL HS
  have c1' : Calls Try.prog 24 #[.pointer (some ⟨w.heap.size, 0, none⟩), .int .i64 (k : Int)] (w.alloc (.cells #[.pointer none, .int .i64 0, .bool false] 54)) (OutP (w.alloc (.cells #[.pointer none, .int .i64 0, .bool false] 54)) w.heap.size L1 bad [w.heap.size]) := by rw [← hbad.out]; exact c1
  clear c1
  have c1 := c1'
  clear c1'
  have hd3 : decide ((p : Int) < (k : Int)) = false := decide_eq_false (by omega)
  have hd3' : decide (p < k) = false := decide_eq_false (by omega)
  have hp0 : -9223372036854775808 ≤ (p : Int) := by omega
  have hp1 : (p : Int) ≤ 9223372036854775807 := by omega
  obtain ⟨q, hq⟩ : ∃ q, p % 120 = q := ⟨_, rfl⟩
  have hq120 : q < 120 := by omega
  have r1 : IntKind.u64.wrap (p : Int) = (p : Int) := IntWalk.u64_in _ (by omega)
  have r2 : (p : Int) % 120 = (q : Int) := by omega
  have r3 : (p : Int).tmod 120 = (q : Int) := by rw [Int.tmod_eq_emod_of_nonneg (by omega)]; exact r2
  have r4 : IntKind.u64.wrap (q : Int) = (q : Int) := IntWalk.u64_in _ (by omega)
  have r5 : IntKind.i64.wrap (q : Int) = (q : Int) := IntWalk.i64_in _ (by omega)
  obtain ⟨x7, L7, e7, hx7, hL7e, he7⟩ : ∃ x7 L7 e7, x7 = (k : Int) ∧ L7 = highB 4 m ++ t ∧ e7 = (0 : Int) := ⟨_, _, _, rfl, rfl, rfl⟩
  have HQ : Hid (numS 8 (p : Int) L 0 = (x7, L7, e7)) := hid_ (by rw [numS_yes hlen (by rw [TN.1]; omega), TN.1, TN.2, hx7, hL7e, he7])
  have hx0 : (x7 == (k : Int)) = true := by rw [hx7]; simp
  have hlen7 : L7.length = 4 + m := by rw [hL7e, List.length_append, highB_len, HM.out]
  have hL7 : L7.length ≤ 140737488355328 := by omega
  have hlt7 : ¬ L7.length < 4 := by omega
  rw [← hL7e] at TC
  have hmany2 : p % 120 < m := by rw [HMin.out]; exact hmany
  have hd4 : decide ((q : Int) < (m : Int)) = true := decide_eq_true (by omega)
  have hd5 : decide (q < m) = true := decide_eq_true (by omega)
  obtain ⟨Y, M, L8, e8, hY, hMM, hL8, he8⟩ : ∃ Y M L8 e8, Y = ([] : List UInt8) ∧ M = 0 ∧ L8 = L7 ∧ e8 = (5 : Int) := ⟨_, _, _, _, rfl, rfl, rfl, rfl⟩
  have HY : Hid (fixS (numS 4 (q : Int) L7 e7).1 (numS 4 (q : Int) L7 e7).2.1 (numS 4 (q : Int) L7 e7).2.2 = (Y, L8, e8)) := hid_ (by rw [he7, numS_big hlt7 (by rw [TC.1]; omega), fixS_off (.inl (by show (5 : Int) ≠ 0; decide)), hY, hL8, he8])
  have HYl : Hid (Y.length = M) := hid_ (by rw [hY, hMM]; rfl)
  have HZ : Hid (endS L8 e8 = 5) := hid_ (by rw [he8]; rfl)
  have hM0 : ((M : Int) == 0) = true := by rw [hMM]; rfl
  clear TN TC hL0 hlen hx7 hL7e he7 hN hlen7 hlt7 hY hMM hL8 he8 hq hmany hmany2 hkp
  go_enter Try.func13, Try.ntmps13
  go_wp2_with (first
    | (go_at_call 24; ((with_reducible refine c1.mono ?_); rintro e w2 ⟨rfl, F2, hO2, hG2, hU2⟩; have O2 := hid_ hO2; have E2 := hid_ (grew_ge hG2 HE1.out (by simp)); have X2 := hid_ (below_unt HB1.out (Nat.le_refl _) hU2 HE1.out); clear hO2 hG2 hU2))
    | (go_at_call 27; have cp := bytes_any w2 w.heap.size L1 bad F2 A m c t O2.out ((HR.out.below X2.out).rdf X2.out.size E2.out) HM.out HS.out; rw [hL.out] at cp; ((with_reducible refine cp.mono ?_); clear cp; rintro e w3 ⟨rfl, F3, hO3, hG3, hU3⟩; have O3 := hid_ hO3; have X3 := hid_ (below_unt X2.out (Nat.le_refl _) hU3 E2.out); clear hO3 hG3 hU3))
    | (go_at_call 22; have cp := done_any w3 w.heap.size N L bad F3 O3.out HN.out hNb; ((with_reducible refine cp.mono ?_); clear cp; rintro e w4 ⟨A4, c4, rfl, hO4, hB4⟩; have O4 := hid_ hO4; have X4 := hid_ (X3.out.trans (hB4.mono X3.out.size)); clear hO4 hB4))
    | (go_at_call 23; have cp := codes_any w4; ((with_reducible refine cp.mono ?_); clear cp; rintro e w5 ⟨rfl, hB5⟩; have O5 := hid_ (O4.out.below hB5 (Nat.le_refl _)); have X5 := hid_ (X4.out.trans (hB5.mono X4.out.size)); clear hB5))
    | (go_at_call 34; have cp := of_any w5 A4 N c4 L HN.out O5.out.rd.1 hNb; ((with_reducible refine cp.mono ?_); clear cp; rintro e w6 ⟨g6, F6, rfl, hI6, hF6, hB6⟩; have I6 := hid_ hI6; have G6 := hid_ (show ∀ k ∈ [g6], w.heap.size ≤ k from fun k hk => by have h1 := X5.out.size; rcases List.mem_singleton.1 hk with rfl; have := (hF6 k hI6.1).1; omega); have X6 := hid_ (X5.out.trans (hB6.mono X5.out.size)); clear hI6 hF6 hB6))
    | (go_at_call 29; have cp : Calls Try.prog 29 #[.pointer (some ⟨g6, 0, none⟩), .int .i64 ((p : Int))] w6 (fun e w' => e = .returned (.int .i64 x7) ∧ InF w' g6 L7 e7 F6 ∧ Untouched [g6] w6 w') := (innum_any w6 g6 ((p : Int)) L 0 F6 I6.out hp0 hp1).mono fun e w' h => (by unfold NumP at h; rw [HQ.out] at h; exact h); ((with_reducible refine cp.mono ?_); clear cp; rintro e w7 ⟨rfl, hI7, hU7⟩; have I7 := hid_ hI7; have X7 := hid_ (below_unt X6.out (Nat.le_refl _) hU7 G6.out); clear hI7 hU7))
    | (go_at_call 32; have cp : Calls Try.prog 32 #[.pointer (some ⟨g6, 0, none⟩), .int .i64 (q : Int)] w7 (fun e w' => (∃ A c, e = .returned (.slice A M c) ∧ Own8 w' w7.heap.size (.slice A M c) Y) ∧ InF w' g6 L8 e8 F6 ∧ Untouched [g6] w7 w') := (inbytes_any w7 g6 (q : Int) L7 e7 F6 I7.out hL7 (by omega) (by omega)).mono fun e w' h => (by unfold FixP at h; rw [HY.out] at h; obtain ⟨⟨A8, m8, c8, h1, h2, h3⟩, h4, h5⟩ := h; have h6 : m8 = M := h2.trans HYl.out; subst h6; exact ⟨⟨A8, c8, h1, h3⟩, h4, h5⟩); ((with_reducible refine cp.mono ?_); clear cp; rintro e w8 ⟨⟨A8, c8, rfl, hO8⟩, hI8, hU8⟩; have I8 := hid_ hI8; have X8 := hid_ (below_unt X7.out (Nat.le_refl _) hU8 G6.out); have cv1 := conv_strn hO8.rd.1 M c8 HYl.out; have cv2 := conv_strn (HR.out.below X8.out) m c HM.out; clear hI8 hU8 hO8))
    | (go_at_call 33; have cp := end_any w8 g6 L8 e8 F6 I8.out; rw [HZ.out] at cp; ((with_reducible refine cp.mono ?_); clear cp; rintro e w9 ⟨rfl, rfl⟩)))
  go_ret
  exact ⟨rfl, X8.out⟩

set_option maxRecDepth 100000 in
set_option maxHeartbeats 4000000 in
theorem walk_all (w : World) (k p : Nat) (A : Option Addr) (l : List UInt8) (c : Nat) (hr : Rd w w.heap.size A l) (hlc : l.length ≤ c) (hcm : c ≤ 9223372036854775807) (hk : k ≤ 9223372036854775807) (hp : p ≤ 9223372036854775807) (hkp : k ≤ p) (hmany : ¬ p % 120 < min l.length 100) :
    Calls Try.prog 13 #[.int .i64 (k : Int), .int .i64 (p : Int), .slice A l.length c] w fun e w' => e = .returned (.bool true) ∧ Below w.heap.size w w' := by
  obtain ⟨m, hm⟩ : ∃ m, m = min l.length 100 := ⟨_, rfl⟩
  have hm1 := fun W => run_min2 l.length 100 m hm W
  rw [show ((100 : Nat) : Int) = 100 from rfl] at hm1
  have hs1 := fun W => slice_to A l.length c (m : Int) m rfl (by omega) W
  have HM0 : (l.take 100).length = m := by rw [List.length_take, hm, Nat.min_comm]
  have HR := hid_ (hr.take 100)
  have m100 : m ≤ 100 := by omega
  generalize l.take 100 = t at *
  have HM := hid_ HM0
  have HMin := hid_ hm
  have HE1 : Hid (∀ k ∈ [w.heap.size], w.heap.size ≤ k) := hid_ (by simp)
  have HB1 := hid_ ((Below.refl w.heap.size w).alloc (Nat.le_refl _) (.cells #[.pointer none, .int .i64 0, .bool false] 54))
  clear hr hlc hcm hm HM0
  have hd1 : decide ((k : Int) < 0) = false := decide_eq_false (by omega)
  have hd2 : decide (0 ≤ (k : Int)) = true := decide_eq_true (by omega)
  have HS : Hid (([] ++ highB 8 k : List UInt8).length + 4 + m ≤ 140737488355328) := hid_ (by simp [highB_len] <;> omega)
  obtain ⟨L, hL⟩ : ∃ L, Hid (([] ++ highB 8 k : List UInt8) ++ highB 4 m ++ t = L) := ⟨_, hid_ rfl⟩
  obtain ⟨N, hN⟩ : ∃ N, 12 + m = N := ⟨_, rfl⟩
  have HN : Hid (L.length = N) := hid_ (by rw [← hL.out, ← hN]; simp [highB_len, HM.out] <;> omega)
  have hNb : N ≤ 140737488355328 := by omega
  have c1 := num_any _ _ [] false _ k (OutF.zero w) hk (by decide)
  have TN := take_num k hk (highB 4 m ++ t)
  have TC := take_cnt m m100 t
  have hL0 : L = highB 8 k ++ (highB 4 m ++ t) := by rw [← hL.out]; simp
  have hlen : ¬ L.length < 8 := by rw [HN.out]; omega
  rw [← hL0] at TN
  obtain ⟨L1, hL1⟩ : ∃ L1, Hid (([] : List UInt8) ++ highB 8 k = L1) := ⟨_, hid_ rfl⟩
  obtain ⟨bad, hbad⟩ : ∃ b, Hid (false = b) := ⟨_, hid_ rfl⟩
  have hcode : (if bad = true then (1 : Int) else 0) = 0 := by rw [← hbad.out]; rfl
  rw [hL1.out] at c1 hL HS
  have c1' : Calls Try.prog 24 #[.pointer (some ⟨w.heap.size, 0, none⟩), .int .i64 (k : Int)] (w.alloc (.cells #[.pointer none, .int .i64 0, .bool false] 54)) (OutP (w.alloc (.cells #[.pointer none, .int .i64 0, .bool false] 54)) w.heap.size L1 bad [w.heap.size]) := by rw [← hbad.out]; exact c1
  clear c1
  have c1 := c1'
  clear c1'
  have hd3 : decide ((p : Int) < (k : Int)) = false := decide_eq_false (by omega)
  have hd3' : decide (p < k) = false := decide_eq_false (by omega)
  have hp0 : -9223372036854775808 ≤ (p : Int) := by omega
  have hp1 : (p : Int) ≤ 9223372036854775807 := by omega
  obtain ⟨q, hq⟩ : ∃ q, p % 120 = q := ⟨_, rfl⟩
  have hq120 : q < 120 := by omega
  have r1 : IntKind.u64.wrap (p : Int) = (p : Int) := IntWalk.u64_in _ (by omega)
  have r2 : (p : Int) % 120 = (q : Int) := by omega
  have r3 : (p : Int).tmod 120 = (q : Int) := by rw [Int.tmod_eq_emod_of_nonneg (by omega)]; exact r2
  have r4 : IntKind.u64.wrap (q : Int) = (q : Int) := IntWalk.u64_in _ (by omega)
  have r5 : IntKind.i64.wrap (q : Int) = (q : Int) := IntWalk.i64_in _ (by omega)
  obtain ⟨x7, L7, e7, hx7, hL7e, he7⟩ : ∃ x7 L7 e7, x7 = (k : Int) ∧ L7 = highB 4 m ++ t ∧ e7 = (0 : Int) := ⟨_, _, _, rfl, rfl, rfl⟩
  have HQ : Hid (numS 8 (p : Int) L 0 = (x7, L7, e7)) := hid_ (by rw [numS_yes hlen (by rw [TN.1]; omega), TN.1, TN.2, hx7, hL7e, he7])
  have hx0 : (x7 == (k : Int)) = true := by rw [hx7]; simp
  have hlen7 : L7.length = 4 + m := by rw [hL7e, List.length_append, highB_len, HM.out]
  have hL7 : L7.length ≤ 140737488355328 := by omega
  have hlt7 : ¬ L7.length < 4 := by omega
  rw [← hL7e] at TC
  have hmany2 : ¬ p % 120 < m := by rw [HMin.out]; exact hmany
  have hd4 : decide ((q : Int) < (m : Int)) = false := decide_eq_false (by omega)
  have hd5 : decide (q < m) = false := decide_eq_false (by omega)
  obtain ⟨Y, M, L8, e8, hY, hMM, hL8, he8⟩ : ∃ Y M L8 e8, Y = t ∧ M = m ∧ L8 = ([] : List UInt8) ∧ e8 = (0 : Int) := ⟨_, _, _, _, rfl, rfl, rfl, rfl⟩
  have HY : Hid (fixS (numS 4 (q : Int) L7 e7).1 (numS 4 (q : Int) L7 e7).2.1 (numS 4 (q : Int) L7 e7).2.2 = (Y, L8, e8)) := hid_ (by rw [he7, numS_yes hlt7 (by rw [TC.1]; omega), TC.1, TC.2]; show fixS (m : Int) t 0 = _; rw [fix_all m t HM.out, hY, hL8, he8])
  have HYl : Hid (Y.length = M) := hid_ (by rw [hY, hMM]; exact HM.out)
  have HZ : Hid (endS L8 e8 = 0) := hid_ (by rw [hL8, he8]; rfl)
  have hst : ((strOf Y).toList == (strOf t).toList) = true := strOf_eq _ _ hY
  clear TN TC hL0 hlen hx7 hL7e he7 hN hlen7 hlt7 hY hMM hL8 he8 hq hmany hmany2 hkp
  go_enter Try.func13, Try.ntmps13
  go_wp2_with (first
    | (go_at_call 24; ((with_reducible refine c1.mono ?_); rintro e w2 ⟨rfl, F2, hO2, hG2, hU2⟩; have O2 := hid_ hO2; have E2 := hid_ (grew_ge hG2 HE1.out (by simp)); have X2 := hid_ (below_unt HB1.out (Nat.le_refl _) hU2 HE1.out); clear hO2 hG2 hU2))
    | (go_at_call 27; have cp := bytes_any w2 w.heap.size L1 bad F2 A m c t O2.out ((HR.out.below X2.out).rdf X2.out.size E2.out) HM.out HS.out; rw [hL.out] at cp; ((with_reducible refine cp.mono ?_); clear cp; rintro e w3 ⟨rfl, F3, hO3, hG3, hU3⟩; have O3 := hid_ hO3; have X3 := hid_ (below_unt X2.out (Nat.le_refl _) hU3 E2.out); clear hO3 hG3 hU3))
    | (go_at_call 22; have cp := done_any w3 w.heap.size N L bad F3 O3.out HN.out hNb; ((with_reducible refine cp.mono ?_); clear cp; rintro e w4 ⟨A4, c4, rfl, hO4, hB4⟩; have O4 := hid_ hO4; have X4 := hid_ (X3.out.trans (hB4.mono X3.out.size)); clear hO4 hB4))
    | (go_at_call 23; have cp := codes_any w4; ((with_reducible refine cp.mono ?_); clear cp; rintro e w5 ⟨rfl, hB5⟩; have O5 := hid_ (O4.out.below hB5 (Nat.le_refl _)); have X5 := hid_ (X4.out.trans (hB5.mono X4.out.size)); clear hB5))
    | (go_at_call 34; have cp := of_any w5 A4 N c4 L HN.out O5.out.rd.1 hNb; ((with_reducible refine cp.mono ?_); clear cp; rintro e w6 ⟨g6, F6, rfl, hI6, hF6, hB6⟩; have I6 := hid_ hI6; have G6 := hid_ (show ∀ k ∈ [g6], w.heap.size ≤ k from fun k hk => by have h1 := X5.out.size; rcases List.mem_singleton.1 hk with rfl; have := (hF6 k hI6.1).1; omega); have X6 := hid_ (X5.out.trans (hB6.mono X5.out.size)); clear hI6 hF6 hB6))
    | (go_at_call 29; have cp : Calls Try.prog 29 #[.pointer (some ⟨g6, 0, none⟩), .int .i64 ((p : Int))] w6 (fun e w' => e = .returned (.int .i64 x7) ∧ InF w' g6 L7 e7 F6 ∧ Untouched [g6] w6 w') := (innum_any w6 g6 ((p : Int)) L 0 F6 I6.out hp0 hp1).mono fun e w' h => (by unfold NumP at h; rw [HQ.out] at h; exact h); ((with_reducible refine cp.mono ?_); clear cp; rintro e w7 ⟨rfl, hI7, hU7⟩; have I7 := hid_ hI7; have X7 := hid_ (below_unt X6.out (Nat.le_refl _) hU7 G6.out); clear hI7 hU7))
    | (go_at_call 32; have cp : Calls Try.prog 32 #[.pointer (some ⟨g6, 0, none⟩), .int .i64 (q : Int)] w7 (fun e w' => (∃ A c, e = .returned (.slice A M c) ∧ Own8 w' w7.heap.size (.slice A M c) Y) ∧ InF w' g6 L8 e8 F6 ∧ Untouched [g6] w7 w') := (inbytes_any w7 g6 (q : Int) L7 e7 F6 I7.out hL7 (by omega) (by omega)).mono fun e w' h => (by unfold FixP at h; rw [HY.out] at h; obtain ⟨⟨A8, m8, c8, h1, h2, h3⟩, h4, h5⟩ := h; have h6 : m8 = M := h2.trans HYl.out; subst h6; exact ⟨⟨A8, c8, h1, h3⟩, h4, h5⟩); ((with_reducible refine cp.mono ?_); clear cp; rintro e w8 ⟨⟨A8, c8, rfl, hO8⟩, hI8, hU8⟩; have I8 := hid_ hI8; have X8 := hid_ (below_unt X7.out (Nat.le_refl _) hU8 G6.out); have cv1 := conv_strn hO8.rd.1 M c8 HYl.out; have cv2 := conv_strn (HR.out.below X8.out) m c HM.out; clear hI8 hU8 hO8))
    | (go_at_call 33; have cp := end_any w8 g6 L8 e8 F6 I8.out; rw [HZ.out] at cp; ((with_reducible refine cp.mono ?_); clear cp; rintro e w9 ⟨rfl, rfl⟩)))
  go_ret
  exact ⟨rfl, X8.out⟩

theorem walk (w : World) (n most : Int) (b0 : -9223372036854775808 ≤ n) (e0 : n ≤ 9223372036854775807) (b1 : -9223372036854775808 ≤ most) (e1 : most ≤ 9223372036854775807) (A : Option Addr) (l : List UInt8) (c : Nat) (hr : Rd w w.heap.size A l) (hlc : l.length ≤ c) (hcm : c ≤ 9223372036854775807) :
    Calls Try.prog 13 #[.int .i64 n, .int .i64 most, .slice A l.length c] w fun e w' => e = .returned (.bool true) ∧ Below w.heap.size w w' := by
  by_cases hn : n < 0
  · exact walk_neg w n most A l c hr hlc hcm hn
  · obtain ⟨k, rfl⟩ : ∃ k : Nat, n = (k : Int) := ⟨n.toNat, by omega⟩
    by_cases hb : most < (k : Int)
    · exact walk_big w k most A l c hr hlc hcm (by omega) b1 e1 hb
    · obtain ⟨p, rfl⟩ : ∃ p : Nat, most = (p : Int) := ⟨most.toNat, by omega⟩
      by_cases hm : p % 120 < min l.length 100
      · exact walk_many w k p A l c hr hlc hcm (by omega) (by omega) (by omega) hm
      · exact walk_all w k p A l c hr hlc hcm (by omega) (by omega) (by omega) hm

set_option maxRecDepth 100000 in
theorem lifted (os : Os) (started : os.Started) (H : Type) (enc : TypeId × Value → H) :
    ReturnsInHanded {} Try.checked os 13 .any (Rows.codecLimitsSpec.pre6 enc Try.prog Try.f13 Rows.codecLimitsRow.domain false) (Rows.codecLimitsSpec.post enc Try.prog Try.f13 false true false false) := by
  refine returnsInHanded_of_change (C := Try.checked) own_ started (by kernel_rfl) Try.func13
    (ChangeSpec.witness6 (enc := enc) (C := Try.checked) false ⟨#[], #[.int .i64 0, .int .i64 0, .slice none 0 0], []⟩ 8 (by kernel_rfl) (by kernel_rfl) (by kernel_rfl) (by kernel_rfl)) ?_
  intro W base args ds gs before hval0 hW hcnd _
  have hval : ∀ (j : Nat) t v, Try.f13.params[j]? = some t → args[j]? = some v → Value.okWide Try.prog W .any base t v := hval0
  have hW' := hW
  obtain ⟨p, q, hA0, hV, rfl, hfz, hnd⟩ := hW
  have hA : DataW.TrodAll enc Try.prog W 0 (fun _ => true) true Try.f13.params.toList args.toList ds p := hA0
  rw [Try.params13] at hA hval
  obtain ⟨v0, vs0, d0, ds0, p0, q0, hargs, rfl, rfl, h0, r0⟩ := trodAll_cons hA
  obtain ⟨v1, vs1, d1, ds1, p1, q1, rfl, rfl, rfl, h1, r1⟩ := trodAll_cons r0
  obtain ⟨v2, vs2, d2, ds2, p2, q2, rfl, rfl, rfl, h2, r2⟩ := trodAll_cons r1
  obtain ⟨rfl, rfl, rfl⟩ := trodAll_nil r2
  obtain rfl : args = #[v0, v1, v2] := by cases args; simp_all
  obtain ⟨rfl, rfl⟩ := trodVars_none hV
  obtain ⟨a0, rfl, rfl, rfl, w0⟩ := open_int Try.underlying3 (hval 0 3 v0 rfl rfl) h0
  obtain ⟨b0, e0⟩ := bounds_i64 w0
  obtain ⟨a1, rfl, rfl, rfl, w1⟩ := open_int Try.underlying3 (hval 1 3 v1 rfl rfl) h1
  obtain ⟨b1, e1⟩ := bounds_i64 w1
  obtain ⟨A2, l2, c2, rfl, hr2, hlc2, hcm2⟩ := open_bytes Try.underlying23 Try.underlying5 (by kernel_rfl) (hval 2 23 v2 rfl rfl) h2
  refine (walk W a0 a1 b0 e0 b1 e1 A2 l2 c2 hr2 hlc2 (by unfold maxLen at hcm2; omega)).mono fun e W' ⟨he, hg⟩ => ⟨_, he, ?_⟩
  exact law_post laidOut_ (of_decide_eq_true (by kernel_rfl)) rfl rfl Try.underlying4 rfl hW' hg

theorem over : Rows.codecLimitsRow.holds Try.pinned (OpenSpec.ofChange Rows.codecLimitsSpec) :=
  OpenClaim.holds_of_wide 13 Try.f13 rfl rfl rfl rfl rfl rfl rfl ⟨rfl, rfl, rfl, rfl, rfl⟩ rfl rfl rfl rfl rfl (by kernel_rfl) Try.func13 (by kernel_rfl)
    (of_decide_eq_true (by kernel_rfl)) (by unfold Func.isWrapper; first | (rw [if_pos (by decide +kernel)]; kernel_rfl) | (rw [if_neg (by decide +kernel)]; exact ⟨rfl, rfl⟩))
    (fun os started H enc _ => lifted os started H enc)

theorem proved : Rows.CodecLimitsSaid := over
#print axioms proved
end Go.Proofs.Ytopmngjaieobnaa.codecLimits
