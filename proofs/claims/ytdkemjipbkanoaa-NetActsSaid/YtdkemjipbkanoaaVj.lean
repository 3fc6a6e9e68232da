/-
  The reference's net: New, box; errors.
-/
import Derived.Test.YtdkemjipbkanoaaVi
import Derived.Test.YtdkemjipbkanoaaVh
namespace Go.Proofs.Ytdkemjipbkanoaa
open Go.RowKit
set_option linter.unusedVariables false
set_option linter.unusedSimpArgs false

section
variable {w : World} {p q s n : Nat} {Z : List (List (List UInt8))} {F : List Nat}
set_option maxRecDepth 100000 in
set_option maxHeartbeats 1000000 in
theorem rbox_any (h : RefF w p q s n Z F) (z : Int) :
    Calls Try.prog 24 #[.pointer (some ⟨p, 0, none⟩), .int .i64 z] w fun e w' => e = .returned (.bool (decide (0 ≤ z) && decide (z < (n : Int)))) ∧ w = w' := by
  have hn := h.hn
  have hc := h.bp.cell 0
  simp only [List.getElem?_toArray, List.getElem?_cons_zero] at hc
  clear h
  by_cases h0 : 0 ≤ z
  · have d1 : decide (0 ≤ z) = true := decide_eq_true h0
    rw [d1, Bool.true_and]
    clear h0
    go_enter Try.func24, Try.ntmps24
    go_wp2
    go_ret
    exact ⟨rfl, rfl⟩
  · have d1 : decide (0 ≤ z) = false := decide_eq_false h0
    rw [d1, Bool.false_and]
    clear h0
    go_enter Try.func24, Try.ntmps24
    go_wp2
    go_ret
    exact ⟨rfl, rfl⟩
theorem rbox_yes (h : RefF w p q s n Z F) (k : Nat) (hk : k < n) :
    Calls Try.prog 24 #[.pointer (some ⟨p, 0, none⟩), .int .i64 (k : Int)] w fun e w' => e = .returned (.bool true) ∧ w = w' := by
  have c := rbox_any h (k : Int)
  rw [decide_eq_true (by omega), decide_eq_true (by omega)] at c
  exact c
theorem rbox_no (h : RefF w p q s n Z F) (z : Int) (hz : z < 0 ∨ (n : Int) ≤ z) :
    Calls Try.prog 24 #[.pointer (some ⟨p, 0, none⟩), .int .i64 z] w fun e w' => e = .returned (.bool false) ∧ w = w' := by
  have c := rbox_any h z
  have d : (decide (0 ≤ z) && decide (z < (n : Int))) = false := by
    rcases hz with g | g
    · rw [decide_eq_false (by omega), Bool.false_and]
    · rw [decide_eq_false (p := z < (n : Int)) (by omega), Bool.and_false]
  rw [d] at c
  exact c
set_option maxRecDepth 100000 in
set_option maxHeartbeats 1000000 in
theorem rsend_no (h : RefF w p q s n Z F) (z : Int) (hz : z < 0 ∨ (n : Int) ≤ z) (v : Value) :
    Calls Try.prog 16 #[.pointer (some ⟨p, 0, none⟩), .int .i64 z, v] w fun e w' => e = .returned (.int .i64 1) ∧ w = w' := by
  have ci := rbox_no h z hz
  clear h hz
  go_enter Try.func16, Try.ntmps16
  go_wp2_with (go_at_call 24; ((with_reducible refine ci.mono ?_); clear ci; rintro e w' ⟨rfl, rfl⟩))
  go_ret
  exact ⟨rfl, rfl⟩
set_option maxRecDepth 100000 in
set_option maxHeartbeats 1000000 in
theorem rtake_no (h : RefF w p q s n Z F) (z : Int) (hz : z < 0 ∨ (n : Int) ≤ z) (y : Int) :
    Calls Try.prog 17 #[.pointer (some ⟨p, 0, none⟩), .int .i64 z, .int .i64 y] w fun e w' => e = .returned (.tuple #[.string (strOf []), .int .i64 1]) ∧ w = w' := by
  have ci := rbox_no h z hz
  clear h hz
  go_enter Try.func17, Try.ntmps17
  go_wp2_with (go_at_call 24; ((with_reducible refine ci.mono ?_); clear ci; rintro e w' ⟨rfl, rfl⟩))
  go_ret2
  exact ⟨rfl, rfl⟩
set_option maxRecDepth 100000 in
set_option maxHeartbeats 1000000 in
theorem rcopy_no (h : RefF w p q s n Z F) (z : Int) (hz : z < 0 ∨ (n : Int) ≤ z) (y : Int) :
    Calls Try.prog 18 #[.pointer (some ⟨p, 0, none⟩), .int .i64 z, .int .i64 y] w fun e w' => e = .returned (.int .i64 1) ∧ w = w' := by
  have ci := rbox_no h z hz
  clear h hz
  go_enter Try.func18, Try.ntmps18
  go_wp2_with (go_at_call 24; ((with_reducible refine ci.mono ?_); clear ci; rintro e w' ⟨rfl, rfl⟩))
  go_ret
  exact ⟨rfl, rfl⟩
theorem loc_lo {q s n j : Nat} (h : j < n) : loc q s n j = ⟨q, j, none⟩ := by unfold loc; rw [if_pos h]
theorem loc_hi {q s n j : Nat} : loc q s n (n + j) = ⟨s, j, none⟩ := by unfold loc; rw [if_neg (by omega), Nat.add_sub_cancel_left]
/-- A row of L, as the walk wants it. -/
theorem RefF.lo (h : RefF w p q s n Z F) (k : Nat) (hk : k < n) : ∃ A c, w.cell? ⟨q, k, none⟩ = some (.slice A (Z.getD k []).length c) ∧ RowS w F (.slice A (Z.getD k []).length c) (Z.getD k []) ∧ (Z.getD k []).length ≤ c ∧ c ≤ maxLen := by
  have := h.at_ k (by omega)
  rw [loc_lo hk] at this
  exact this
theorem RefF.hi (h : RefF w p q s n Z F) (k : Nat) (hk : k < n) : ∃ A c, w.cell? ⟨s, k, none⟩ = some (.slice A (Z.getD (n + k) []).length c) ∧ RowS w F (.slice A (Z.getD (n + k) []).length c) (Z.getD (n + k) []) ∧ (Z.getD (n + k) []).length ≤ c ∧ c ≤ maxLen := by
  have := h.at_ (n + k) (by omega)
  rw [loc_hi] at this
  exact this
set_option maxRecDepth 100000 in
set_option maxHeartbeats 1000000 in
theorem rtake_miss (h : RefF w p q s n Z F) (k : Nat) (hk : k < n) (z : Int) (hz : z < 0 ∨ ((Z.getD k []).length : Int) ≤ z) :
    Calls Try.prog 17 #[.pointer (some ⟨p, 0, none⟩), .int .i64 (k : Int), .int .i64 z] w fun e w' => e = .returned (.tuple #[.string (strOf []), .int .i64 7]) ∧ w = w' := by
  have hn := h.hn
  obtain ⟨A, c, hc, hr, hcl, hcm⟩ := h.lo k hk
  have ci := rbox_yes h k hk
  have hp := h.bp.cell 0
  simp only [List.getElem?_toArray, List.getElem?_cons_zero] at hp
  generalize (Z.getD k []).length = r at *
  clear h hr
  by_cases h0 : z < 0
  · have d1 : decide (z < 0) = true := decide_eq_true h0
    clear h0 hz
    go_enter Try.func17, Try.ntmps17
    go_wp2_with (go_at_call 24; ((with_reducible refine ci.mono ?_); clear ci; rintro e w' ⟨rfl, rfl⟩))
    go_ret2
    exact ⟨rfl, rfl⟩
  · have d1 : decide (z < 0) = false := decide_eq_false h0
    have d2 : decide ((r : Int) ≤ z) = true := decide_eq_true (by omega)
    clear h0 hz
    go_enter Try.func17, Try.ntmps17
    go_wp2_with (go_at_call 24; ((with_reducible refine ci.mono ?_); clear ci; rintro e w' ⟨rfl, rfl⟩))
    go_ret2
    exact ⟨rfl, rfl⟩
set_option maxRecDepth 100000 in
set_option maxHeartbeats 1000000 in
theorem rcopy_miss (h : RefF w p q s n Z F) (k : Nat) (hk : k < n) (z : Int) (hz : z < 0 ∨ ((Z.getD k []).length : Int) ≤ z) :
    Calls Try.prog 18 #[.pointer (some ⟨p, 0, none⟩), .int .i64 (k : Int), .int .i64 z] w fun e w' => e = .returned (.int .i64 7) ∧ w = w' := by
  have hn := h.hn
  obtain ⟨A, c, hc, hr, hcl, hcm⟩ := h.lo k hk
  have ci := rbox_yes h k hk
  have hp := h.bp.cell 0
  simp only [List.getElem?_toArray, List.getElem?_cons_zero] at hp
  generalize (Z.getD k []).length = r at *
  clear h hr
  by_cases h0 : z < 0
  · have d1 : decide (z < 0) = true := decide_eq_true h0
    clear h0 hz
    go_enter Try.func18, Try.ntmps18
    go_wp2_with (go_at_call 24; ((with_reducible refine ci.mono ?_); clear ci; rintro e w' ⟨rfl, rfl⟩))
    go_ret
    exact ⟨rfl, rfl⟩
  · have d1 : decide (z < 0) = false := decide_eq_false h0
    have d2 : decide ((r : Int) ≤ z) = true := decide_eq_true (by omega)
    clear h0 hz
    go_enter Try.func18, Try.ntmps18
    go_wp2_with (go_at_call 24; ((with_reducible refine ci.mono ?_); clear ci; rintro e w' ⟨rfl, rfl⟩))
    go_ret
    exact ⟨rfl, rfl⟩
end
theorem infoSs : (Try.prog.info? 46).map (fun i => (i.zero, i.size, i.bytes)) = some (some (.slice none 0 0), 1, 24) := by kernel_rfl
def nilC (n : Nat) : Array Value := madeCells (Value.slice none 0 0).cells n
theorem nilC_size (n : Nat) : (nilC n).size = n := by unfold nilC; exact size_madeCells _ _
theorem nilC_at (n j : Nat) (h : j < n) : (nilC n)[j]? = some (.slice none 0 0) := by
  rw [Array.getElem?_eq_getElem (by rw [nilC_size]; exact h)]
  simp [nilC, madeCells, Value.cells, Nat.mod_one]
theorem mkSs (n : Nat) (h9 : n ≤ 9) (w : World) : (Instr.makeSlice 47 (.int .i64 (n : Int)) (.int .i64 (n : Int))).run Try.prog w = .ok (.slice (some ⟨w.heap.size, 0, none⟩) n n) (w.alloc (.cells (nilC n) 46)) := by
  obtain ⟨i, hi, hz, hsize, hby⟩ := info_parts infoSs
  have h := run_make (P := Try.prog) w 47 46 i _ Try.underlying47 hi hz .i64 .i64 (n : Int) (n : Int) (by omega) (by omega) (by rw [hby]; omega) (by omega)
  rw [hsize] at h
  simpa [nilC] using h
theorem ref_new {w : World} {p q s n : Nat} (h9 : n ≤ 9) (hqs : q ≠ s) (bp : Bk w p 49 #[.slice (some ⟨q, 0, none⟩) n n, .slice (some ⟨s, 0, none⟩) n n]) (bq : Bk w q 46 (nilC n)) (bs : Bk w s 46 (nilC n)) : RefF w p q s n (List.replicate (2 * n) []) [p, q, s] := by
  have hc : ∀ j, j < 2 * n → w.cell? (loc q s n j) = some (.slice none 0 0) := fun j hj => by
    unfold loc
    split
    · exact (bq.cell j).trans (nilC_at n j (by omega))
    · exact (bs.cell _).trans (nilC_at n _ (by omega))
  refine ⟨fun k hk => ?_, by simp, by simp, by simp, bp, by simp, h9, hqs, ⟨_, bq, nilC_size n⟩, ⟨_, bs, nilC_size n⟩, fun j hj => ⟨_, hc j hj, ?_⟩, fun i j v v' hi hj hij h1 h2 g hg => ?_⟩
  · simp at hk
    rcases hk with rfl | rfl | rfl
    · exact bp.lt
    · exact bq.lt
    · exact bs.lt
  · have : (List.replicate (2 * n) ([] : List (List UInt8))).getD j [] = [] := by simp [List.getD, hj]
    rw [this]
    exact RowS.nil_ _ _
  · rw [hc i hi] at h1
    obtain rfl := Option.some.inj h1
    cases hg
end Go.Proofs.Ytdkemjipbkanoaa
