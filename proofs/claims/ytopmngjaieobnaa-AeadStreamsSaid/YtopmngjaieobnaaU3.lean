/-
  Contract: the reference's Poly1305: less.
-/
import Derived.Test.YtopmngjaieobnaaU2
import Derived.Deep.QuietTactic
import Derived.BigQuiet
namespace Go.Proofs.Ytopmngjaieobnaa
open Go.RowKit
set_option linter.unusedVariables false

theorem ret_bool {a b : Bool} (h : a = b) : Ending.returned (.bool a) = .returned (.bool b) := by rw [h]
theorem digit_of (y : Int) (j : Nat) : y / 256 ^ j = y / 256 ^ j % 256 + 256 * (y / 256 ^ (j + 1)) := by
  rw [Int.pow_succ, ← Int.ediv_ediv_of_nonneg (Int.pow_nonneg (by omega))]
  omega
theorem lt_of_digit (y z : Int) (j : Nat) (h : y / 256 ^ (j + 1) = z / 256 ^ (j + 1)) (hne : y / 256 ^ j % 256 ≠ z / 256 ^ j % 256) : decide (y / 256 ^ j % 256 < z / 256 ^ j % 256) = decide (y < z) := by
  have e1 := digit_of y j
  have e2 := digit_of z j
  rw [h] at e1
  have hp : (0 : Int) < 256 ^ j := Int.pow_pos (by omega)
  have m : ∀ {a b : Int}, a ≤ b → a / 256 ^ j ≤ b / 256 ^ j := fun h => Int.ediv_le_ediv hp h
  have q : (y / 256 ^ j % 256 < z / 256 ^ j % 256) ↔ y < z := by
    constructor
    · intro hlt
      rcases Int.lt_or_le y z with h1 | h1
      · exact h1
      · have := m h1; omega
    · intro hlt
      have := m (Int.le_of_lt hlt)
      omega
  exact decide_eq_decide.2 q
theorem eq_of_digit (y z : Int) (j : Nat) (h : y / 256 ^ (j + 1) = z / 256 ^ (j + 1)) (he : y / 256 ^ j % 256 = z / 256 ^ j % 256) : y / 256 ^ j = z / 256 ^ j := by
  have e1 := digit_of y j
  have e2 := digit_of z j
  omega

set_option maxRecDepth 100000 in
set_option maxHeartbeats 2000000 in
theorem less_any (y z : Int) (w : World) (hy : 0 ≤ y ∧ y < 256 ^ 34) (hz : 0 ≤ z ∧ z < 256 ^ 34) :
    Calls Try.prog 75 #[.agg (rowI (digI 34 y)), .agg (rowI (digI 34 z))] w fun e w' => e = .returned (.bool (decide (y < z))) ∧ Below w.heap.size w w' := by
  obtain ⟨g, hg⟩ : ∃ g, Hid (w.heap.size = g) := ⟨_, rfl⟩
  obtain ⟨w0, hw0⟩ : ∃ W, Hid ((w.alloc (.cells (rowI (digI 34 y)) 82)).alloc (.cells (rowI (digI 34 z)) 82) = W) := ⟨_, rfl⟩
  have HG : Hid (Bk w0 g 82 (rowI (digI 34 y))) := hidu_ (by rw [← hw0.out, ← hg.out]; exact (Bk.new w _ _).alloc _)
  have HZ : Hid (Bk w0 (g + 1) 82 (rowI (digI 34 z))) := hidu_ (by
    have h := Bk.new (w.alloc (.cells (rowI (digI 34 y)) 82)) 82 (rowI (digI 34 z))
    rw [← hw0.out, ← hg.out]
    simpa using h)
  have HB : Hid (Below g w w0) := hidu_ (by rw [← hw0.out, ← hg.out]; exact ((Below.refl _ _).alloc (Nat.le_refl _) _).alloc (by simp) _)
  have HY : Hid (y / 256 ^ 34 = z / 256 ^ 34) := hidu_ (by rw [Int.ediv_eq_zero_of_lt hy.1 hy.2, Int.ediv_eq_zero_of_lt hz.1 hz.2])
  clear hy hz
  have hs1 : (w.alloc (.cells (rowI (digI 34 y)) 82)).heap.size = w.heap.size + 1 := by simp
  obtain ⟨r, hrr⟩ : ∃ r, Hid (decide (y < z) = r) := ⟨_, rfl⟩
  rw [hrr.out]
  go_enter Try.func75, Try.ntmps75
  go_upto_region 1 with fail
  first | rw [hs1] | skip
  rw [hg.out, hw0.out]
  clear hs1
  go_wp2
  go_loopw [5] (fun i wr => ∃ (k : Nat) (zi : Int), i = .int .i64 zi ∧ zi + 1 = (k : Int) ∧ k ≤ 34 ∧ Hid (y / 256 ^ k = z / 256 ^ k) ∧ Bk wr g 82 (rowI (digI 34 y)) ∧ Bk wr (g + 1) 82 (rowI (digI 34 z)) ∧ Below g w wr) (fun i _ => (intOf i + 1).toNat)
  case atStart => exact ⟨34, 33, rfl, by omega, by omega, HY, HG.out, HZ.out, HB.out⟩
  case round =>
    obtain ⟨k, zi, rfl, hzi, hk, HE, b0, b1, bb⟩ := hrel
    have B0 := hidu_ b0
    have B1 := hidu_ b1
    have BB := hidu_ bb
    clear b0 b1 bb HG HZ HB HY
    rcases k with _ | j
    · obtain rfl : zi = -1 := by omega
      have hyz : r = false := by
        have h := HE.out
        rw [Int.pow_zero, Int.ediv_one, Int.ediv_one] at h
        rw [← hrr.out, h]; simp
      subst hyz
      clear hzi
      go_wp2
      go_ret
      exact ⟨rfl, by rw [hg.out]; exact BB.out⟩
    · obtain rfl : zi = (j : Int) := by omega
      clear hzi
      have hc := B0.out.cell j
      rw [rowI_at _ _ (by rw [digI_len]; omega), dig_getD _ _ _ (by omega)] at hc
      have hc2 := B1.out.cell j
      rw [rowI_at _ _ (by rw [digI_len]; omega), dig_getD _ _ _ (by omega)] at hc2
      have HL := lt_of_digit y z j HE.out
      have HQ := eq_of_digit y z j HE.out
      have t0 : (0 : Int) ≤ (j : Int) := by omega
      have t1 : (j : Int) < 34 := by omega
      obtain ⟨a, ha⟩ : ∃ x, Hid (y / 256 ^ j % 256 = x) := ⟨_, rfl⟩
      obtain ⟨b, hb⟩ : ∃ x, Hid (z / 256 ^ j % 256 = x) := ⟨_, rfl⟩
      rw [ha.out] at hc HL HQ
      rw [hb.out] at hc2 HL HQ
      by_cases hab : a = b
      · have HQ2 := hidu_ (HQ hab)
        clear HL HQ ha
        obtain rfl : a = b := hab
        have e1 : (a == a) = true := by simp
        have e2 : (a != a) = false := by simp
        go_upto_region 4 with fail
        go_quiet (fail)
        obtain ⟨wd, hwd⟩ : ∃ wd, wr.drewN nq = wd := ⟨_, rfl⟩
        have D0 : Hid (Bk wd g 82 (rowI (digI 34 y))) := hidu_ (by rw [← hwd]; exact B0.out.drewN nq)
        have D1 : Hid (Bk wd (g + 1) 82 (rowI (digI 34 z))) := hidu_ (by rw [← hwd]; exact B1.out.drewN nq)
        have DB : Hid (Below g w wd) := hidu_ (by rw [← hwd]; exact below_drewN BB.out nq)
        rw [hwd]
        clear hwd hc hc2 B0 B1 BB
        go_wp2
        go_roundw
        case rel => exact ⟨j, (j : Int) - 1, rfl, by omega, by omega, HQ2, D0.out, D1.out, DB.out⟩
        case measure => simp [intOf]
      · have HL2 := hidu_ (HL hab)
        have e1 : (a == b) = false := by simpa using hab
        have e2 : (a != b) = true := by simpa using hab
        clear HL HQ hab ha hb
        go_upto_region 4 with fail
        go_quiet (fail)
        obtain ⟨wd, hwd⟩ : ∃ wd, wr.drewN nq = wd := ⟨_, rfl⟩
        replace hc : wd.cell? ⟨g, j, none⟩ = some (.int .i64 a) := by rw [← hwd]; exact hc
        replace hc2 : wd.cell? ⟨g + 1, j, none⟩ = some (.int .i64 b) := by rw [← hwd]; exact hc2
        have DB : Hid (Below g w wd) := hidu_ (by rw [← hwd]; exact below_drewN BB.out nq)
        rw [hwd]
        clear hwd B0 B1 BB
        go_upto_region 5 with fail
        go_quiet (fail)
        go_wp2
        go_ret
        exact ⟨ret_bool (HL2.out.trans hrr.out), by rw [hg.out]; exact below_drewN DB.out _⟩
end Go.Proofs.Ytopmngjaieobnaa
