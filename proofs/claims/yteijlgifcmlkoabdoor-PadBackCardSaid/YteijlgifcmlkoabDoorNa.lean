/-
  Sizes and classes: pad.Class and the document's Class.
-/
import Derived.Test.YteijlgifcmlkoabDoorG8
import Derived.Test.YteijlgifcmlkoabDoorLp
import Derived.Test.YteijlgifcmlkoabDoorCards
import Derived.Test.YteijlgifcmlkoabDoorTie
import Derived.Deep.DeepHandedRow
import Derived.Lib.LaidTab
namespace Go.Proofs.YteijlgifcmlkoabDoor
open Go.ChangeShapes Go.WideShapes Go.ChangeAt Go.RowKit
set_option linter.unusedVariables false
set_option linter.unusedSimpArgs false

theorem hidp_ {p : Prop} (h : p) : Hid p := h
/-- The class of so many bytes, and its size. -/
def clsK (n : Nat) : Nat := if n ≤ 60 then 0 else if n ≤ 252 then 1 else if n ≤ 1020 then 2 else 3
def sizeK (k : Nat) : Nat := if k = 0 then 64 else if k = 1 then 256 else if k = 2 then 1024 else 4096
def clsS (n : Nat) : Nat := sizeK (clsK n)
theorem clsK_le (n : Nat) : clsK n ≤ 3 := by
  unfold clsK
  repeat' split
  all_goals omega
theorem size_below (n k : Nat) (hn : n ≤ 4000) (h : k < clsK n) : sizeK k < 4 + n := by
  unfold clsK at h
  unfold sizeK
  repeat' split at h
  all_goals (repeat' split) <;> omega
theorem size_at (n : Nat) (hn : n ≤ 4000) : 4 + n ≤ clsS n := by
  unfold clsS clsK sizeK
  repeat' split
  all_goals omega
theorem clsS_le (n : Nat) : clsS n ≤ 4096 := by
  unfold clsS clsK sizeK
  repeat' split
  all_goals omega
/-- What Class answers. -/
def clsR (z : Int) : Int × Int × Int := if z < 0 then (0, 0, 1) else if 4000 < z then (0, 0, 5) else ((clsS z.toNat : Int), (clsK z.toNat : Int), 0)
def PTab (w : World) : Prop := ∀ k, k < 4 → w.cell? ⟨0, k, none⟩ = some (.int .i64 (sizeK k : Int))
theorem PTab.below {w w' : World} {B : Nat} (h : PTab w) (hb : Below B w w') (hg : 0 < B) : PTab w' := fun k hk => (hb.cell (p := ⟨_, k, none⟩) hg).trans (h k hk)

set_option maxRecDepth 100000 in
set_option maxHeartbeats 2000000 in
theorem class_any (w : World) (z : Int) (ht : PTab w) :
    Calls Tryd.prog 7 #[.int .i64 z] w fun e w' => e = .returned (.tuple #[.int .i64 (clsR z).1, .int .i64 (clsR z).2.1, .int .i64 (clsR z).2.2]) ∧ w = w' := by
  by_cases h1 : z < 0
  · have d1 : decide (z < 0) = true := decide_eq_true h1
    rw [show clsR z = (0, 0, 1) from if_pos h1]
    go_enter Tryd.func7, Tryd.ntmps7
    go_wp2
    go_ret3
    exact ⟨rfl, rfl⟩
  · have d1 : decide (z < 0) = false := decide_eq_false h1
    by_cases h2 : 4000 < z
    · have d2 : decide (4000 < z) = true := decide_eq_true h2
      rw [show clsR z = (0, 0, 5) by unfold clsR; rw [if_neg h1, if_pos h2]]
      go_enter Tryd.func7, Tryd.ntmps7
      go_wp2
      go_ret3
      exact ⟨rfl, rfl⟩
    · obtain ⟨n, rfl⟩ : ∃ n : Nat, z = (n : Int) := ⟨z.toNat, by omega⟩
      have hn : n ≤ 4000 := by omega
      have d2 : decide (4000 < (n : Int)) = false := decide_eq_false h2
      have d3 : decide (4000 < n) = false := decide_eq_false (by omega)
      rw [show clsR (n : Int) = ((clsS n : Int), (clsK n : Int), 0) by unfold clsR; rw [if_neg h1, if_neg h2]; rfl]
      have HT := hidp_ ht
      have K3 := clsK_le n
      have HS := hidp_ (show sizeK (clsK n) = clsS n from rfl)
      have HB := hidp_ (fun k => size_below n k hn)
      have HA := hidp_ (size_at n hn)
      have hw4 : IntKind.i64.wrap (4 + (n : Int)) = ((4 + n : Nat) : Int) := by rw [IntWalk.i64_in _ (by omega)]; omega
      obtain ⟨n4, hn4⟩ : ∃ m, 4 + n = m := ⟨_, rfl⟩
      have hw5 : (4 : Int) + (n : Int) = (n4 : Int) := by omega
      rw [hn4] at hw4 HA
      have HB2 : Hid (∀ k, k < clsK n → sizeK k < n4) := hidp_ (fun k hk => by rw [← hn4]; exact HB.out k hk)
      generalize clsK n = K at *
      generalize clsS n = S at *
      clear ht h1 h2 HB hn4
      go_enter Tryd.func7, Tryd.ntmps7
      go_upto_region 6 with fail
      go_loopw [5] (fun i wr => ∃ k : Nat, k ≤ K ∧ i = .int .i64 k ∧ w = wr) (fun i _ => 4 - (intOf i).toNat)
      case atStart => exact ⟨0, Nat.zero_le _, rfl, rfl⟩
      case round =>
        obtain ⟨k, hk, rfl, rfl⟩ := hrel
        have hk4 : k < 4 := by omega
        have hc := HT.out k hk4
        have t0 : (0 : Int) ≤ (k : Int) := by omega
        have t4 : (k : Int) < 4 := by omega
        have t5 : k < 4 := hk4
        by_cases hlt : k < K
        · have hsz := HB2.out k hlt
          generalize sizeK k = s at *
          have d4 : decide ((s : Int) < (n4 : Int)) = true := decide_eq_true (by omega)
          have d5 : decide (s < n4) = true := decide_eq_true hsz
          go_wp2
          go_roundw
          case rel => exact ⟨k + 1, by omega, by go_num, by first | trivial | rfl⟩
          case measure => simp [intOf]; omega
        · obtain rfl : k = K := by omega
          have hsz := HA.out
          rw [HS.out] at hc
          have d4 : decide ((S : Int) < (n4 : Int)) = false := decide_eq_false (by omega)
          have d5 : decide (S < n4) = false := decide_eq_false (by omega)
          clear hsz hlt
          go_wp2
          go_ret3
          exact ⟨rfl, rfl⟩
set_option maxRecDepth 100000 in
set_option maxHeartbeats 2000000 in
theorem refClass_any (w : World) (z : Int) :
    Calls Tryd.prog 8 #[.int .i64 z] w fun e w' => e = .returned (.tuple #[.int .i64 (clsR z).1, .int .i64 (clsR z).2.1, .int .i64 (clsR z).2.2]) ∧ w = w' := by
  by_cases h1 : z < 0
  · have d1 : decide (z < 0) = true := decide_eq_true h1
    rw [show clsR z = (0, 0, 1) from if_pos h1]
    go_enter Tryd.func8, Tryd.ntmps8
    go_wp2
    go_ret3
    exact ⟨rfl, rfl⟩
  · have d1 : decide (z < 0) = false := decide_eq_false h1
    by_cases h2 : 4000 < z
    · have d2 : decide (4000 < z) = true := decide_eq_true h2
      rw [show clsR z = (0, 0, 5) by unfold clsR; rw [if_neg h1, if_pos h2]]
      go_enter Tryd.func8, Tryd.ntmps8
      go_wp2
      go_ret3
      exact ⟨rfl, rfl⟩
    · obtain ⟨n, rfl⟩ : ∃ n : Nat, z = (n : Int) := ⟨z.toNat, by omega⟩
      have hn : n ≤ 4000 := by omega
      have d2 : decide (4000 < (n : Int)) = false := decide_eq_false h2
      have d3 : decide (4000 < n) = false := decide_eq_false (by omega)
      rw [show clsR (n : Int) = ((clsS n : Int), (clsK n : Int), 0) by unfold clsR; rw [if_neg h1, if_neg h2]; rfl]
      have K3 := clsK_le n
      have HS := hidp_ (show sizeK (clsK n) = clsS n from rfl)
      have HB := hidp_ (fun k => size_below n k hn)
      have HA := hidp_ (size_at n hn)
      obtain ⟨n4, hn4⟩ : ∃ m, 4 + n = m := ⟨_, rfl⟩
      have hw4 : IntKind.i64.wrap ((n : Int) + 4) = (n4 : Int) := by rw [IntWalk.i64_in _ (by omega)]; omega
      have hw5 : (n : Int) + 4 = (n4 : Int) := by omega
      rw [hn4] at HA
      have HB2 : Hid (∀ k, k < clsK n → sizeK k < n4) := hidp_ (fun k hk => by rw [← hn4]; exact HB.out k hk)
      generalize clsK n = K at *
      generalize clsS n = S at *
      clear h1 h2 HB hn4
      go_enter Tryd.func8, Tryd.ntmps8
      go_upto_region 6 with fail
      go_loopw [5, 6] (fun s i wr => ∃ k : Nat, k ≤ K ∧ i = .int .i64 k ∧ s = .int .i64 (sizeK k : Int) ∧ w = wr) (fun _ i _ => 4 - (intOf i).toNat)
      case atStart => exact ⟨0, Nat.zero_le _, rfl, rfl, rfl⟩
      case round =>
        obtain ⟨k, hk, rfl, rfl, rfl⟩ := hrel
        by_cases hlt : k < K
        · have hsz := HB2.out k hlt
          have hk3 : k < 3 := by omega
          have hnx := hidp_ (show sizeK (k + 1) = sizeK k * 4 by rcases (by omega : k = 0 ∨ k = 1 ∨ k = 2) with rfl | rfl | rfl <;> rfl)
          have hsm : sizeK k ≤ 4096 := by
            unfold sizeK
            repeat' split
            all_goals omega
          generalize sizeK k = s at *
          have d4 : decide ((s : Int) < (n4 : Int)) = true := decide_eq_true (by omega)
          have d5 : decide (s < n4) = true := decide_eq_true hsz
          have hw6 : IntKind.i64.wrap ((s : Int) * 4) = (s : Int) * 4 := IntWalk.i64_in _ (by omega)
          go_wp2
          go_roundw
          case rel => exact ⟨k + 1, by omega, by go_num, by rw [hnx.out]; go_num, by first | trivial | rfl⟩
          case measure => simp [intOf]; omega
        · obtain rfl : k = K := by omega
          have hsz := HA.out
          rw [HS.out]
          have d4 : decide ((S : Int) < (n4 : Int)) = false := decide_eq_false (by omega)
          have d5 : decide (S < n4) = false := decide_eq_false (by omega)
          clear hsz hlt
          go_wp2
          go_ret3
          exact ⟨rfl, rfl⟩

theorem gSizes : Tryd.prog.globalNamed "casket/pad.sizes" = some 0 := by kernel_rfl
theorem gSizesType : (Tryd.prog.globals[0]?).map (·.type) = some 37 := by kernel_rfl
theorem cells4p : Tryd.prog.cellsOf 37 = 4 := by kernel_rfl
theorem cells1p : Tryd.prog.cellsOf 3 = 1 := by kernel_rfl
/-- What a row's list gives: the sizes lie there. -/
theorem sizes_of {W : World} (h : laidMetH Tryd.prog [("casket/pad.sizes", Rows.laid_casket_pad_sizes)] W) : PTab W ∧ 0 < W.heap.size := by
  have h1 : laidMet Tryd.prog [("casket/pad.sizes", Lib.tabData .i64 [64, 256, 1024, 4096])] W := h
  have h2 : Lib.TabIs Tryd.prog W "casket/pad.sizes" .i64 [64, 256, 1024, 4096] := Lib.tabIs_of_head (rest := []) gSizes gSizesType Tryd.underlying37 Tryd.underlying3 cells1p cells4p h1
  have h3 : PTab W := fun t ht => by
    have h := h2.cell gSizes t (by simpa using ht)
    rw [h]
    rcases (by omega : t = 0 ∨ t = 1 ∨ t = 2 ∨ t = 3) with rfl | rfl | rfl | rfl <;> rfl
  exact ⟨h3, World.block_lt_of_cell? W _ (h3 0 (by omega))⟩
/-- A world for the witnesses: the settled one, the sizes as their initialiser lays them. -/
noncomputable def laidWorld (os : Os) : World :=
  { World.holding Tryd.prog os ⟨#[], #[], []⟩ with heap := (World.holding Tryd.prog os ⟨#[], #[], []⟩).heap.modify 0 fun
      | .cells _ t frozen => .cells #[.int .i64 64, .int .i64 256, .int .i64 1024, .int .i64 4096] t frozen
      | o => o }
end Go.Proofs.YteijlgifcmlkoabDoor
