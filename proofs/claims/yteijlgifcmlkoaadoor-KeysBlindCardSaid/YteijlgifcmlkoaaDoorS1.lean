/-
  Contracts: the small functions of sha2 and of the document's own: startWords, turned, moved, right.
-/
import Derived.Test.YteijlgifcmlkoaaDoorBr
import Derived.Test.YteijlgifcmlkoaaDoorAp
import Derived.Deep.QuietTactic
import Derived.BigQuiet
import Derived.Deep.RegionWith
namespace Go.Proofs.YteijlgifcmlkoaaDoor
open Go.RowKit

/-- The cells of a row of words. -/
def wordsRow (l : List Int) : Array Value := (l.map (Value.int .u32)).toArray
/-- What the eight words begin as. -/
def startH : List Int := [1779033703, 3144134277, 1013904242, 2773480762, 1359893119, 2600822924, 528734635, 1541459225]

/-- A call that leaves the world alone, in a region that draws. -/
theorem q_left {P : Program} {f : FuncId} {args : Array Value} {w : World} {n : Nat} {v : Value} (h : Calls P f args (w.drewN n) fun e w' => e = .returned v ∧ w.drewN n = w') :
    Calls P f args (w.drewN n) fun e w' => e = .returned v ∧ ∃ m, w' = w.drewN m := h.mono fun _ _ hh => ⟨hh.1, n, hh.2.symm⟩

theorem startWords_any (w : World) :
    Calls Tryd.prog 37 #[] w fun e w' => e = .returned (.agg (wordsRow startH)) ∧ Below w.heap.size w w' := by
  go_enter Tryd.func37, Tryd.ntmps37
  go_wp2
  exact bodyPost_ret (v := .agg (wordsRow startH)) (by simp [results, Tryd.results37, go_sem]; rfl) rfl ⟨rfl, (Below.refl _ _).alloc (Nat.le_refl _) _⟩
theorem turned_any (x i j k : Int) (hx0 : 0 ≤ x) (hx1 : x ≤ 4294967295) (hi : 0 ≤ i ∧ i ≤ 31) (hj : 0 ≤ j ∧ j ≤ 31) (hk : 0 ≤ k ∧ k ≤ 31) (w : World) :
    Calls Tryd.prog 48 #[.int .u32 x, .int .i64 i, .int .i64 j, .int .i64 k] w fun e w' =>
      e = .returned (.int .u32 (bits .xor .u32 (bits .xor .u32 (rotn ((-i) % 32).toNat x) (rotn ((-j) % 32).toNat x)) (rotn ((-k) % 32).toNat x))) ∧ w = w' := by
  obtain ⟨hi0, hi1⟩ := hi
  obtain ⟨hj0, hj1⟩ := hj
  obtain ⟨hk0, hk1⟩ := hk
  go_enter Tryd.func48, Tryd.ntmps48
  go_wp2_with (go_at_call 51; refine (left_any _ _ (by omega) (by omega) _).mono ?_; rintro e w' ⟨rfl, rfl⟩)
  go_ret
  exact ⟨rfl, rfl⟩
theorem moved_any (x i j k : Int) (hx0 : 0 ≤ x) (hx1 : x ≤ 4294967295) (hi : 0 ≤ i ∧ i ≤ 31) (hj : 0 ≤ j ∧ j ≤ 31) (hk : 0 ≤ k ∧ k ≤ 31) (w : World) :
    Calls Tryd.prog 50 #[.int .u32 x, .int .i64 i, .int .i64 j, .int .i64 k] w fun e w' =>
      e = .returned (.int .u32 (bits .xor .u32 (bits .xor .u32 (rotn ((-i) % 32).toNat x) (rotn ((-j) % 32).toNat x)) (x / 2 ^ k.toNat))) ∧ w.drew = w' := by
  obtain ⟨hi0, hi1⟩ := hi
  obtain ⟨hj0, hj1⟩ := hj
  obtain ⟨hk0, hk1⟩ := hk
  have e1 : IntKind.i64.wrap (-i) = -i := IntWalk.i64_in _ (by omega)
  have e2 : IntKind.i64.wrap (-j) = -j := IntWalk.i64_in _ (by omega)
  go_enter Tryd.func50, Tryd.ntmps50
  go_wp2
  go_region_with (first | (go_at_call 51; refine (left_any _ _ (by omega) (by omega) _).mono ?_; rintro e w' ⟨rfl, rfl⟩))
  all_goals (go_wp2; go_ret; exact ⟨rfl, rfl⟩)
theorem right_any (x n : Int) (hx0 : 0 ≤ x) (hx1 : x ≤ 4294967295) (hn : 0 ≤ n ∧ n ≤ 32) (w : World) :
    Calls Tryd.prog 31 #[.int .u32 x, .int .i64 n] w fun e w' => e = .returned (.int .u32 (rotn ((-n) % 32).toNat x)) ∧ w = w' := by
  obtain ⟨hn0, hn1⟩ := hn
  go_enter Tryd.func31, Tryd.ntmps31
  go_wp2_with (go_at_call 41; refine (refLeft_any _ _ (by omega) (by omega) _).mono ?_; rintro e w' ⟨rfl, rfl⟩)
  go_ret
  exact ⟨rfl, rfl⟩
end Go.Proofs.YteijlgifcmlkoaaDoor
