/-
  byDot, as a sort wants it told; its order is a strict weak one.
-/
import Derived.Test.YtjflmfmncepeeaaIb
import Derived.Shelf.SlSortCmp.WholeK
namespace Go.Proofs.Ytjflmfmncepeeaa
open Go.ChangeShapes Go.WideShapes Go.ChangeAt Go.RowKit
set_option linter.unusedVariables false
set_option linter.unusedSimpArgs false

def GrC (w w2 W : World) : Prop := Below w2.heap.size w2 W ∧ ∃ q os, W = Go.Sort.grow (w.drewN q) os
theorem ltD (x y : DotV) : ltOf cmpD x y = decide (x.c < y.c ∨ (x.c = y.c ∧ x.n < y.n)) := by
  unfold ltOf cmpD cmpI
  rw [Bool.eq_iff_iff]
  simp only [decide_eq_true_eq]
  repeat' split
  all_goals omega
theorem swoD : Go.Sort.SWO (ltOf cmpD) where
  irrefl x := by rw [ltD]; simp
  trans x y z h1 h2 := by rw [ltD] at *; simp at *; omega
  ntrans x y z h1 h2 := by rw [ltD] at *; simp at *; omega
set_option maxRecDepth 100000 in
set_option maxHeartbeats 2000000 in
theorem byDot_grow (w : World) (a b : DotV) : Calls Try.prog 37 #[.agg a.row, .agg b.row] w fun e w' => e = .returned (.int .i64 (cmpD a b)) ∧ ∃ q os', w' = Go.Sort.grow (w.drewN q) os' := by
  obtain ⟨a0, a1⟩ := a
  obtain ⟨b0, b1⟩ := b
  obtain ⟨g, hg⟩ : ∃ g, w.heap.size = g := ⟨_, rfl⟩
  obtain ⟨w1, hw1⟩ : ∃ w1, w.alloc (.cells #[.int .i64 a0, .int .i64 a1] 27) = w1 := ⟨_, rfl⟩
  have A1 : Bk w1 g 27 #[.int .i64 a0, .int .i64 a1] := by rw [← hw1, ← hg]; exact Bk.new w _ _
  have X1 : Below g w w1 := by rw [← hw1, ← hg]; exact (Below.refl _ _).alloc (Nat.le_refl _) _
  have s1 : w1.heap.size = g + 1 := by rw [← hw1, ← hg]; simp
  obtain ⟨w2, hw2⟩ : ∃ w2, w1.alloc (.cells #[.int .i64 b0, .int .i64 b1] 27) = w2 := ⟨_, rfl⟩
  have B2 : Bk w2 (g + 1) 27 #[.int .i64 b0, .int .i64 b1] := by rw [← s1, ← hw2]; exact Bk.new w1 _ _
  have b12 : Below w1.heap.size w1 w2 := by rw [← hw2]; exact (Below.refl _ _).alloc (Nat.le_refl _) _
  have A2 := hidd_ (A1.below b12 A1.lt)
  have B2h := hidd_ B2
  have X2 := hidd_ (X1.trans (b12.mono (by omega)))
  have HG := hidd_ hg
  have hlg : g ≤ w2.heap.size := by have := B2.lt; omega
  have V : Hid (∀ W, GrC w w2 W → W.cell? ⟨g, 0, none⟩ = some (.int .i64 a0) ∧ W.cell? ⟨g, 1, none⟩ = some (.int .i64 a1) ∧ W.cell? ⟨g + 1, 0, none⟩ = some (.int .i64 b0) ∧ W.cell? ⟨g + 1, 1, none⟩ = some (.int .i64 b1)) := hidd_ (fun W hh => have h := hh.1; ⟨(Bk.twod (A2.out.below h A2.out.lt)).1, (Bk.twod (A2.out.below h A2.out.lt)).2, (Bk.twod (B2h.out.below h B2h.out.lt)).1, (Bk.twod (B2h.out.below h B2h.out.lt)).2⟩)
  have P1 : Hid (∀ W, GrC w w2 W → Calls Try.prog 58 #[.int .i64 a0, .int .i64 b0] W fun e w' => e = .returned (.int .i64 (cmpI a0 b0)) ∧ GrC w w2 w') := hidd_ (fun W h => (compare_any W a0 b0).mono fun e w' hh => ⟨hh.1, hh.2 ▸ h⟩)
  have P2 : Hid (∀ W, GrC w w2 W → Calls Try.prog 58 #[.int .i64 a1, .int .i64 b1] W fun e w' => e = .returned (.int .i64 (cmpI a1 b1)) ∧ GrC w w2 w') := hidd_ (fun W h => (compare_any W a1 b1).mono fun e w' hh => ⟨hh.1, hh.2 ▸ h⟩)
  have HC := hidd_ (show cmpD ⟨a0, a1⟩ ⟨b0, b1⟩ = if cmpI a0 b0 ≠ 0 then cmpI a0 b0 else cmpI a1 b1 from rfl)
  generalize cmpI a0 b0 = x at *
  generalize cmpI a1 b1 = y at *
  unfold DotV.row
  clear A1 X1 B2 b12
  go_enter Try.func37, Try.ntmps37
  go_upto_region 1 with fail
  have C0 : GrC w w2 { w2 with drawn := w2.drawn + 1 } := ⟨(Below.refl _ _).drew, 1, #[_, _], by rw [← hw2, ← hw1, Go.Sort.alloc_eq_grow, Go.Sort.alloc_eq_grow, Go.Sort.grow_grow]; rfl⟩
  clear hw1 hw2 hg s1
  refine region_quiet_tail (C := fun W => GrC w w2 W) 10 (by kernel_rfl) (by kernel_rfl) C0 ?_
  simp only [List.take_succ_cons, List.take_zero]
  repeat (go_big_quiet_want; (first
    | (refine BigFrame.quiet_move _ rfl ?_; go_simp)
    | (refine quiet_run (.pointer (some ⟨g, 0, none⟩)) ?_ ?_; (focus (intro W hW; go_simp; done)); go_simp)
    | (refine quiet_run (.pointer (some ⟨g, 1, none⟩)) ?_ ?_; (focus (intro W hW; go_simp; done)); go_simp)
    | (refine quiet_run (.pointer (some ⟨g + 1, 0, none⟩)) ?_ ?_; (focus (intro W hW; go_simp; done)); go_simp)
    | (refine quiet_run (.pointer (some ⟨g + 1, 1, none⟩)) ?_ ?_; (focus (intro W hW; go_simp; done)); go_simp)
    | (refine quiet_run (.int .i64 a0) ?_ ?_; (focus (intro W hW; have h := V.out W hW; obtain ⟨h1, h2, h3, h4⟩ := h; go_simp; done)); go_simp)
    | (refine quiet_run (.int .i64 a1) ?_ ?_; (focus (intro W hW; have h := V.out W hW; obtain ⟨h1, h2, h3, h4⟩ := h; go_simp; done)); go_simp)
    | (refine quiet_run (.int .i64 b0) ?_ ?_; (focus (intro W hW; have h := V.out W hW; obtain ⟨h1, h2, h3, h4⟩ := h; go_simp; done)); go_simp)
    | (refine quiet_run (.int .i64 b1) ?_ ?_; (focus (intro W hW; have h := V.out W hW; obtain ⟨h1, h2, h3, h4⟩ := h; go_simp; done)); go_simp)
    | (refine quiet_call (.int .i64 x) 58 #[.int .i64 a0, .int .i64 b0] ?_ P1.out ?_; (focus (intro W; go_simp; done)); go_simp)
    | (refine quiet_call (.int .i64 y) 58 #[.int .i64 a1, .int .i64 b1] ?_ P2.out ?_; (focus (intro W; go_simp; done)); go_simp)); go_big_quiet_on)
  refine wpQuiet_nil ?_
  intro w5 hw5
  have X5 := hidd_ hw5
  simp only [List.drop_succ_cons, List.drop_zero]
  have co := or_any (w5.alloc (.cells #[.int .i64 x, .int .i64 y] 3)) w5.heap.size x y (Bk.new w5 _ _)
  rw [← HC.out] at co
  clear hw5 V P1 P2
  go_wp2_with (go_at_call 57; ((with_reducible refine co.mono ?_); rintro e w6 ⟨rfl, rfl⟩))
  go_ret
  exact ⟨rfl, by obtain ⟨_, q, os, e⟩ := X5.out; exact ⟨q, os ++ #[_], by rw [Go.Sort.alloc_eq_grow, e, Go.Sort.grow_grow]⟩⟩
end Go.Proofs.Ytjflmfmncepeeaa
