/-
  Dots: byDot; slices of dots that are read.
-/
import Derived.Test.YtjflmfmncepeeaaIa
namespace Go.Proofs.Ytjflmfmncepeeaa
open Go.ChangeShapes Go.WideShapes Go.ChangeAt Go.RowKit
set_option linter.unusedVariables false
set_option linter.unusedSimpArgs false

set_option maxRecDepth 100000 in
set_option maxHeartbeats 1000000 in
theorem or_any (w : World) (q : Nat) (a b : Int) (h : Bk w q 3 #[.int .i64 a, .int .i64 b]) : Calls Try.prog 57 #[.slice (some ⟨q, 0, none⟩) 2 2] w fun e w' => e = .returned (.int .i64 (if a ≠ 0 then a else b)) ∧ w = w' := by
  have h0 := h.cell 0
  have h1 := h.cell 1
  simp only [List.getElem?_toArray, List.getElem?_cons_zero, List.getElem?_cons_succ] at h0 h1
  have H : Hid (∀ k, k < 2 → w.cell? ⟨q, k, none⟩ = some (.int .i64 (if k = 0 then a else b))) := hidd_ (fun k hk => by
    rcases (by omega : k = 0 ∨ k = 1) with rfl | rfl
    · exact h0
    · exact h1)
  obtain ⟨r, hr⟩ : ∃ r, (if a ≠ 0 then a else b) = r := ⟨_, rfl⟩
  have HR := hidd_ hr
  rw [hr]
  clear h h0 h1 hr
  go_enter Try.func57, Try.ntmps57
  go_upto_region 3 with fail
  go_loopw [5, 8] (fun v i wr => ∃ k : Nat, k ≤ 2 ∧ i = .int .i64 k ∧ w = wr ∧ Hid (0 < k → a = 0) ∧ Hid (1 < k → b = 0)) (fun _ i _ => 2 - (intOf i).toNat)
  case atStart => exact ⟨0, by omega, rfl, rfl, hidd_ (fun h => by omega), hidd_ (fun h => by omega)⟩
  case round =>
    obtain ⟨k, hk, rfl, rfl, Ha, Hb⟩ := hrel
    by_cases hlt : k < 2
    · have hc := H.out k hlt
      obtain ⟨x, hx⟩ : ∃ x, (if k = 0 then a else b) = x := ⟨_, rfl⟩
      rw [hx] at hc
      have HX := hidd_ hx
      clear hx
      have t0 : (0 : Int) ≤ (k : Int) := by omega
      have t2 : (k : Int) < 2 := by omega
      by_cases h0 : x = 0
      · have hb0 : (x != 0) = false := by simp [h0]
        have hb1 : (x == 0) = true := by simp [h0]
        have HA' := hidd_ (show 0 < k + 1 → a = 0 from fun _ => by
          have := HX.out
          rcases (by omega : k = 0 ∨ k = 1) with rfl | rfl
          · rw [if_pos rfl] at this; omega
          · exact Ha.out (by omega))
        have HB' := hidd_ (show 1 < k + 1 → b = 0 from fun _ => by
          have := HX.out
          rw [if_neg (by omega)] at this; omega)
        clear h0
        go_wp2
        go_roundw
        case rel => exact ⟨k + 1, by omega, by go_num, by first | trivial | rfl, HA', HB'⟩
        case measure => simp [intOf]; omega
      · have hb0 : (x != 0) = true := by simpa using h0
        have hb1 : (x == 0) = false := by simpa using h0
        have HQ := hidd_ (show x = r by
          have h1 := HX.out
          have h2 := HR.out
          rcases (by omega : k = 0 ∨ k = 1) with rfl | rfl
          · rw [if_pos rfl] at h1; rw [if_pos (by rw [h1]; exact h0)] at h2; omega
          · have h3 := Ha.out (by omega)
            rw [if_neg (by omega)] at h1; rw [if_neg (by omega)] at h2; omega)
        go_wp2
        go_ret
        exact ⟨by first | rfl | (rw [HQ.out]; rfl) | (rw [← HQ.out]; rfl), rfl⟩
    · obtain rfl : k = 2 := by omega
      have d1 : decide (((2 : Nat) : Int) < 2) = false := decide_eq_false (by omega)
      have HQ := hidd_ (show r = 0 by
        have h2 := HR.out
        rw [if_neg (by have := Ha.out (by omega); omega)] at h2
        have := Hb.out (by omega)
        omega)
      go_wp2
      go_ret
      exact ⟨by first | rfl | (rw [HQ.out]; rfl) | (rw [← HQ.out]; rfl), rfl⟩
theorem Bk.twod {w : World} {g : Nat} {ty : TypeId} {a b : Value} (h : Bk w g ty #[a, b]) : w.cell? ⟨g, 0, none⟩ = some a ∧ w.cell? ⟨g, 1, none⟩ = some b := by
  have h0 := h.cell 0
  have h1 := h.cell 1
  simp only [List.getElem?_toArray, List.getElem?_cons_zero, List.getElem?_cons_succ] at h0 h1
  exact ⟨h0, h1⟩
set_option maxRecDepth 100000 in
set_option maxHeartbeats 2000000 in
theorem byDot_any (w : World) (a b : DotV) : Calls Try.prog 37 #[.agg a.row, .agg b.row] w fun e w' => e = .returned (.int .i64 (cmpD a b)) ∧ Below w.heap.size w w' := by
  obtain ⟨a0, a1⟩ := a
  obtain ⟨b0, b1⟩ := b
  obtain ⟨g, hg⟩ : ∃ g, w.heap.size = g := ⟨_, rfl⟩
  obtain ⟨w1, hw1⟩ : ∃ w1, w.alloc (.cells #[.int .i64 a0, .int .i64 a1] 27) = w1 := ⟨_, rfl⟩
  have A1 : Bk w1 g 27 #[.int .i64 a0, .int .i64 a1] := by rw [← hw1, ← hg]; exact Bk.new w _ _
  have X1 : Below g w w1 := by rw [← hw1, ← hg]; exact (Below.refl _ _).alloc (Nat.le_refl _) _
  have s1 : w1.heap.size = g + 1 := by rw [← hw1, ← hg]; simp
  obtain ⟨w2, hw2⟩ : ∃ w2, w1.alloc (.cells #[.int .i64 b0, .int .i64 b1] 27) = w2 := ⟨_, rfl⟩
  have B2 : Bk w2 (g + 1) 27 #[.int .i64 b0, .int .i64 b1] := by rw [← s1, ← hw2]; exact Bk.new w1 _ _
  have b12 : Below w1.heap.size w1 w2 := by rw [← hw2]; exact (Below.refl _ _).alloc (Nat.le_refl _) _
  have A2 := hidd_ (A1.below b12 A1.lt)
  have B2h := hidd_ B2
  have X2 := hidd_ (X1.trans (b12.mono (by omega)))
  have HG := hidd_ hg
  have hlg : g ≤ w2.heap.size := by have := B2.lt; omega
  have V : Hid (∀ W, Below w2.heap.size w2 W → W.cell? ⟨g, 0, none⟩ = some (.int .i64 a0) ∧ W.cell? ⟨g, 1, none⟩ = some (.int .i64 a1) ∧ W.cell? ⟨g + 1, 0, none⟩ = some (.int .i64 b0) ∧ W.cell? ⟨g + 1, 1, none⟩ = some (.int .i64 b1)) := hidd_ (fun W h => ⟨(Bk.twod (A2.out.below h A2.out.lt)).1, (Bk.twod (A2.out.below h A2.out.lt)).2, (Bk.twod (B2h.out.below h B2h.out.lt)).1, (Bk.twod (B2h.out.below h B2h.out.lt)).2⟩)
  have P1 : Hid (∀ W, Below w2.heap.size w2 W → Calls Try.prog 58 #[.int .i64 a0, .int .i64 b0] W fun e w' => e = .returned (.int .i64 (cmpI a0 b0)) ∧ Below w2.heap.size w2 w') := hidd_ (fun W h => (compare_any W a0 b0).mono fun e w' hh => ⟨hh.1, hh.2 ▸ h⟩)
  have P2 : Hid (∀ W, Below w2.heap.size w2 W → Calls Try.prog 58 #[.int .i64 a1, .int .i64 b1] W fun e w' => e = .returned (.int .i64 (cmpI a1 b1)) ∧ Below w2.heap.size w2 w') := hidd_ (fun W h => (compare_any W a1 b1).mono fun e w' hh => ⟨hh.1, hh.2 ▸ h⟩)
  have HC := hidd_ (show cmpD ⟨a0, a1⟩ ⟨b0, b1⟩ = if cmpI a0 b0 ≠ 0 then cmpI a0 b0 else cmpI a1 b1 from rfl)
  generalize cmpI a0 b0 = x at *
  generalize cmpI a1 b1 = y at *
  unfold DotV.row
  clear A1 X1 B2 b12
  go_enter Try.func37, Try.ntmps37
  go_upto_region 1 with fail
  clear hw1 hw2 hg s1
  refine region_quiet_tail (C := fun W => Below w2.heap.size w2 W) 10 (by kernel_rfl) (by kernel_rfl) ((Below.refl _ _).drew) ?_
  simp only [List.take_succ_cons, List.take_zero]
  repeat (go_big_quiet_want; (first
    | (refine BigFrame.quiet_move _ rfl ?_; go_simp)
    | (refine quiet_run (.pointer (some ⟨g, 0, none⟩)) ?_ ?_; (focus (intro W hW; go_simp; done)); go_simp)
    | (refine quiet_run (.pointer (some ⟨g, 1, none⟩)) ?_ ?_; (focus (intro W hW; go_simp; done)); go_simp)
    | (refine quiet_run (.pointer (some ⟨g + 1, 0, none⟩)) ?_ ?_; (focus (intro W hW; go_simp; done)); go_simp)
    | (refine quiet_run (.pointer (some ⟨g + 1, 1, none⟩)) ?_ ?_; (focus (intro W hW; go_simp; done)); go_simp)
    | (refine quiet_run (.int .i64 a0) ?_ ?_; (focus (intro W hW; have h := V.out W hW; obtain ⟨h1, h2, h3, h4⟩ := h; go_simp; done)); go_simp)
    | (refine quiet_run (.int .i64 a1) ?_ ?_; (focus (intro W hW; have h := V.out W hW; obtain ⟨h1, h2, h3, h4⟩ := h; go_simp; done)); go_simp)
    | (refine quiet_run (.int .i64 b0) ?_ ?_; (focus (intro W hW; have h := V.out W hW; obtain ⟨h1, h2, h3, h4⟩ := h; go_simp; done)); go_simp)
    | (refine quiet_run (.int .i64 b1) ?_ ?_; (focus (intro W hW; have h := V.out W hW; obtain ⟨h1, h2, h3, h4⟩ := h; go_simp; done)); go_simp)
    | (refine quiet_call (.int .i64 x) 58 #[.int .i64 a0, .int .i64 b0] ?_ P1.out ?_; (focus (intro W; go_simp; done)); go_simp)
    | (refine quiet_call (.int .i64 y) 58 #[.int .i64 a1, .int .i64 b1] ?_ P2.out ?_; (focus (intro W; go_simp; done)); go_simp)); go_big_quiet_on)
  refine wpQuiet_nil ?_
  intro w5 hw5
  have X5 := hidd_ (X2.out.trans (Below.mono hw5 hlg))
  simp only [List.drop_succ_cons, List.drop_zero]
  have co := or_any (w5.alloc (.cells #[.int .i64 x, .int .i64 y] 3)) w5.heap.size x y (Bk.new w5 _ _)
  rw [← HC.out] at co
  clear hw5 V P1 P2
  have hs5 : g ≤ w5.heap.size := by have := X5.out.size; have := HG.out; omega
  go_wp2_with (go_at_call 57; ((with_reducible refine co.mono ?_); rintro e w6 ⟨rfl, rfl⟩))
  go_ret
  exact ⟨rfl, by rw [HG.out]; exact X5.out.alloc hs5 _⟩
end Go.Proofs.Ytjflmfmncepeeaa
