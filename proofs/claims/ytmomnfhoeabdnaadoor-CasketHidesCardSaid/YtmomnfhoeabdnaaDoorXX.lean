/-
  Merged: Na Nb Nc Xa Xb Xc Xv Xd Xe Xf Xg Xh Xq Xi Xn Rx Xr.
-/
import Derived.Test.YtmomnfhoeabdnaaDoorGG
import Derived.Test.YtmomnfhoeabdnaaDoorLp
import Derived.Test.YtmomnfhoeabdnaaDoorCards
import Derived.Test.YtmomnfhoeabdnaaDoorTie
import Derived.Deep.DeepHandedRow
import Derived.Lib.LaidTab
import Derived.Test.YtmomnfhoeabdnaaDoorGR
import Derived.Test.YtmomnfhoeabdnaaDoorEA
import Derived.Test.YtmomnfhoeabdnaaDoorYG
import Derived.Test.YtmomnfhoeabdnaaDoorYJ
import Derived.Test.YtmomnfhoeabdnaaDoorZj
import Derived.Test.YtmomnfhoeabdnaaDoorZt
import Derived.Laws.StructEq
import Derived.Test.YtmomnfhoeabdnaaDoorLc
import Derived.LaidSub
import Derived.Test.YtmomnfhoeabdnaaDoorFj
import Derived.Test.YtmomnfhoeabdnaaDoorUn
import Derived.Test.YtmomnfhoeabdnaaDoorTo
import Derived.Deep.Slices
namespace Go.Proofs.YtmomnfhoeabdnaaDoor
set_option maxRecDepth 100000
open Go.ChangeShapes Go.WideShapes Go.ChangeAt Go.RowKit
set_option linter.unusedVariables false
set_option linter.unusedSimpArgs false

theorem hidp_ {p : Prop} (h : p) : Hid p := h
/-- The class of so many bytes, and its size. -/
def clsK (n : Nat) : Nat := if n ≤ 60 then 0 else if n ≤ 252 then 1 else if n ≤ 1020 then 2 else 3
def sizeK (k : Nat) : Nat := if k = 0 then 64 else if k = 1 then 256 else if k = 2 then 1024 else 4096
def clsS (n : Nat) : Nat := sizeK (clsK n)
theorem clsK_le (n : Nat) : clsK n ≤ 3 := by
  unfold clsK
  repeat' split
  all_goals omega
theorem size_below (n k : Nat) (hn : n ≤ 4000) (h : k < clsK n) : sizeK k < 4 + n := by
  unfold clsK at h
  unfold sizeK
  repeat' split at h
  all_goals (repeat' split) <;> omega
theorem size_at (n : Nat) (hn : n ≤ 4000) : 4 + n ≤ clsS n := by
  unfold clsS clsK sizeK
  repeat' split
  all_goals omega
theorem clsS_le (n : Nat) : clsS n ≤ 4096 := by
  unfold clsS clsK sizeK
  repeat' split
  all_goals omega
/-- What Class answers. -/
def clsR (z : Int) : Int × Int × Int := if z < 0 then (0, 0, 1) else if 4000 < z then (0, 0, 5) else ((clsS z.toNat : Int), (clsK z.toNat : Int), 0)
def PTab (w : World) : Prop := ∀ k, k < 4 → w.cell? ⟨1, k, none⟩ = some (.int .i64 (sizeK k : Int))
theorem PTab.below {w w' : World} {B : Nat} (h : PTab w) (hb : Below B w w') (hg : 1 < B) : PTab w' := fun k hk => (hb.cell (p := ⟨_, k, none⟩) hg).trans (h k hk)

set_option maxRecDepth 100000 in
set_option maxHeartbeats 2000000 in
theorem class_any (w : World) (z : Int) (ht : PTab w) :
    Calls Tryd.prog 40 #[.int .i64 z] w fun e w' => e = .returned (.tuple #[.int .i64 (clsR z).1, .int .i64 (clsR z).2.1, .int .i64 (clsR z).2.2]) ∧ w = w' := by
  by_cases h1 : z < 0
  · have d1 : decide (z < 0) = true := decide_eq_true h1
    rw [show clsR z = (0, 0, 1) from if_pos h1]
    go_enter Tryd.func40, Tryd.ntmps40
    go_wp2
    go_ret3
    exact ⟨rfl, rfl⟩
  · have d1 : decide (z < 0) = false := decide_eq_false h1
    by_cases h2 : 4000 < z
    · have d2 : decide (4000 < z) = true := decide_eq_true h2
      rw [show clsR z = (0, 0, 5) by unfold clsR; rw [if_neg h1, if_pos h2]]
      go_enter Tryd.func40, Tryd.ntmps40
      go_wp2
      go_ret3
      exact ⟨rfl, rfl⟩
    · obtain ⟨n, rfl⟩ : ∃ n : Nat, z = (n : Int) := ⟨z.toNat, by omega⟩
      have hn : n ≤ 4000 := by omega
      have d2 : decide (4000 < (n : Int)) = false := decide_eq_false h2
      have d3 : decide (4000 < n) = false := decide_eq_false (by omega)
      rw [show clsR (n : Int) = ((clsS n : Int), (clsK n : Int), 0) by unfold clsR; rw [if_neg h1, if_neg h2]; rfl]
      have HT := hidp_ ht
      have K3 := clsK_le n
      have HS := hidp_ (show sizeK (clsK n) = clsS n from rfl)
      have HB := hidp_ (fun k => size_below n k hn)
      have HA := hidp_ (size_at n hn)
      have hw4 : IntKind.i64.wrap (4 + (n : Int)) = ((4 + n : Nat) : Int) := by rw [IntWalk.i64_in _ (by omega)]; omega
      obtain ⟨n4, hn4⟩ : ∃ m, 4 + n = m := ⟨_, rfl⟩
      have hw5 : (4 : Int) + (n : Int) = (n4 : Int) := by omega
      rw [hn4] at hw4 HA
      have HB2 : Hid (∀ k, k < clsK n → sizeK k < n4) := hidp_ (fun k hk => by rw [← hn4]; exact HB.out k hk)
      generalize clsK n = K at *
      generalize clsS n = S at *
      clear ht h1 h2 HB hn4
      go_enter Tryd.func40, Tryd.ntmps40
      go_upto_region 6 with fail
      go_loopw [5] (fun i wr => ∃ k : Nat, k ≤ K ∧ i = .int .i64 k ∧ w = wr) (fun i _ => 4 - (intOf i).toNat)
      case atStart => exact ⟨0, Nat.zero_le _, rfl, rfl⟩
      case round =>
        obtain ⟨k, hk, rfl, rfl⟩ := hrel
        have hk4 : k < 4 := by omega
        have hc := HT.out k hk4
        have t0 : (0 : Int) ≤ (k : Int) := by omega
        have t4 : (k : Int) < 4 := by omega
        have t5 : k < 4 := hk4
        by_cases hlt : k < K
        · have hsz := HB2.out k hlt
          generalize sizeK k = s at *
          have d4 : decide ((s : Int) < (n4 : Int)) = true := decide_eq_true (by omega)
          have d5 : decide (s < n4) = true := decide_eq_true hsz
          go_wp2
          go_roundw
          case rel => exact ⟨k + 1, by omega, by go_num, by first | trivial | rfl⟩
          case measure => simp [intOf]; omega
        · obtain rfl : k = K := by omega
          have hsz := HA.out
          rw [HS.out] at hc
          have d4 : decide ((S : Int) < (n4 : Int)) = false := decide_eq_false (by omega)
          have d5 : decide (S < n4) = false := decide_eq_false (by omega)
          clear hsz hlt
          go_wp2
          go_ret3
          exact ⟨rfl, rfl⟩
theorem gSizes : Tryd.prog.globalNamed "casket/pad.sizes" = some 1 := by kernel_rfl
theorem gSizesType : (Tryd.prog.globals[1]?).map (·.type) = some 112 := by kernel_rfl
theorem cells4p : Tryd.prog.cellsOf 112 = 4 := by kernel_rfl
theorem cells1p : Tryd.prog.cellsOf 3 = 1 := by kernel_rfl
/-- What a row's list gives: the sizes lie there. -/
theorem sizes_of {W : World} (h : laidMetH Tryd.prog [("casket/pad.sizes", Rows.laid_casket_pad_sizes)] W) : PTab W ∧ 1 < W.heap.size := by
  have h1 : laidMet Tryd.prog [("casket/pad.sizes", Lib.tabData .i64 [64, 256, 1024, 4096])] W := h
  have h2 : Lib.TabIs Tryd.prog W "casket/pad.sizes" .i64 [64, 256, 1024, 4096] := Lib.tabIs_of_head (rest := []) gSizes gSizesType Tryd.underlying112 Tryd.underlying3 cells1p cells4p h1
  have h3 : PTab W := fun t ht => by
    have h := h2.cell gSizes t (by simpa using ht)
    rw [h]
    rcases (by omega : t = 0 ∨ t = 1 ∨ t = 2 ∨ t = 3) with rfl | rfl | rfl | rfl <;> rfl
  exact ⟨h3, World.block_lt_of_cell? W _ (h3 0 (by omega))⟩
/-- A world for the witnesses: the settled one, the sizes as their initialiser lays them. -/
noncomputable def laidWorldc (os : Os) : World :=
  { World.holding Tryd.prog os ⟨#[], #[], []⟩ with heap := (World.holding Tryd.prog os ⟨#[], #[], []⟩).heap.modify 1 fun
      | .cells _ t frozen => .cells #[.int .i64 64, .int .i64 256, .int .i64 1024, .int .i64 4096] t frozen
      | o => o }
end Go.Proofs.YtmomnfhoeabdnaaDoor

namespace Go.Proofs.YtmomnfhoeabdnaaDoor
set_option maxRecDepth 100000
open Go.ChangeShapes Go.WideShapes Go.ChangeAt Go.RowKit
set_option linter.unusedVariables false
set_option linter.unusedSimpArgs false

/-- The padded bytes. -/
def padB (l : List UInt8) : List UInt8 := highB 4 l.length ++ l ++ List.replicate (clsS l.length - 4 - l.length) 0
theorem padB_len (l : List UInt8) (h : l.length ≤ 4000) : (padB l).length = clsS l.length := by
  have := size_at l.length h
  simp [padB, highB_len]
  omega
/-- What Pad leaves. -/
def PadP (w : World) (N : Nat) (l : List UInt8) (e : Ending) (w' : World) : Prop := ∃ A c, e = .returned (.tuple #[.slice A N c, .int .i64 0]) ∧ Own8 w' w.heap.size (.slice A N c) l ∧ Below w.heap.size w w'
theorem below_untp {w w1 w2 : World} {B : Nat} {F : List Nat} (hx : Below B w w1) (hB : B ≤ w.heap.size) (hu : Untouched F w1 w2) (hF : ∀ k ∈ F, B ≤ k) : Below B w w2 := hx.trans (hu.below hF (Nat.le_trans hB hx.size))
theorem grew_gep {w1 : World} {B : Nat} {F F2 : List Nat} (hG : Grew w1 F F2) (hF : ∀ k ∈ F, B ≤ k) (hB : B ≤ w1.heap.size) : ∀ k ∈ F2, B ≤ k := fun k hk => by
  rcases hG k hk with h | h
  · exact hF k h
  · omega

set_option maxRecDepth 100000 in
set_option maxHeartbeats 2000000 in
theorem pad_big (w : World) (A : Option Addr) (n c : Nat) (hn : 4000 < n) (ht : PTab w) :
    Calls Tryd.prog 26 #[.slice A n c] w fun e w' => e = .returned (.tuple #[.slice none 0 0, .int .i64 5]) ∧ w = w' := by
  have cc := class_any w (n : Int) ht
  rw [show clsR (n : Int) = (0, 0, 5) by unfold clsR; rw [if_neg (by omega), if_pos (by omega)]] at cc
  clear hn ht
  go_enter Tryd.func26, Tryd.ntmps26
  go_wp2_with (go_at_call 40; ((with_reducible refine cc.mono ?_); rintro e w2 ⟨rfl, rfl⟩))
  go_ret2
  exact ⟨rfl, rfl⟩
set_option maxRecDepth 100000 in
set_option maxHeartbeats 4000000 in
theorem pad_any (w : World) (A : Option Addr) (n c : Nat) (l : List UInt8) (hn : l.length = n) (hn4 : n ≤ 4000) (hr : Rd w w.heap.size A l) (ht : PTab w) :
    Calls Tryd.prog 26 #[.slice A n c] w (PadP w (clsS n) (padB l)) := by
  have cc := class_any w (n : Int) ht
  rw [show clsR (n : Int) = ((clsS n : Int), (clsK n : Int), 0) by unfold clsR; rw [if_neg (by omega), if_neg (by omega)]; rfl] at cc
  have hsa := size_at n hn4
  have hsl := clsS_le n
  have HP0 : padB l = highB 4 n ++ l ++ List.replicate (clsS n - 4 - n) 0 := by rw [padB, hn]
  have HPL0 := padB_len l (by omega)
  rw [hn] at HPL0
  generalize clsK n = K at *
  generalize clsS n = N at *
  obtain ⟨m, hm⟩ : ∃ m, N - 4 = m := ⟨_, rfl⟩
  obtain ⟨z, hz⟩ : ∃ z, m - n = z := ⟨_, rfl⟩
  rw [hm, hz] at HP0
  have r1 : IntKind.i64.wrap ((N : Int) - 4) = (m : Int) := by rw [IntWalk.i64_in _ (by omega)]; omega
  have r2 : (N : Int) - 4 = (m : Int) := by omega
  have r3 : IntKind.i64.wrap ((m : Int) - (n : Int)) = (z : Int) := by rw [IntWalk.i64_in _ (by omega)]; omega
  have r4 : (m : Int) - (n : Int) = (z : Int) := by omega
  have hmk := fun W => mk8 z (by omega) W
  have hz5 : z ≤ 5000 := by omega
  have hN5 : N ≤ 5000 := by omega
  have K1 : Blk8 (w.alloc (.cells (rowOf (List.replicate z 0)) 5)) w.heap.size (List.replicate z 0) := Blk8.new w _
  have B1 : Below w.heap.size w (w.alloc (.cells (rowOf (List.replicate z 0)) 5)) := (Below.refl _ _).alloc (Nat.le_refl _) _
  have s1 : (w.alloc (.cells (rowOf (List.replicate z 0)) 5)).heap.size = w.heap.size + 1 := by simp
  obtain ⟨w1, hw1⟩ : ∃ w1, w.alloc (.cells (rowOf (List.replicate z 0)) 5) = w1 := ⟨_, rfl⟩
  rw [hw1] at K1 B1 s1
  have O2 : OutF (w1.alloc (.cells #[.pointer none, .int .i64 0, .bool false] 81)) w1.heap.size [] false [w1.heap.size] := OutF.zero w1
  have B2 : Below w1.heap.size w1 (w1.alloc (.cells #[.pointer none, .int .i64 0, .bool false] 81)) := (Below.refl _ _).alloc (Nat.le_refl _) _
  obtain ⟨w2, hw2⟩ : ∃ w2, w1.alloc (.cells #[.pointer none, .int .i64 0, .bool false] 81) = w2 := ⟨_, rfl⟩
  rw [hw2] at O2 B2
  have K2 := hidp_ (show Blk8 w2 w.heap.size (List.replicate z 0) from (B2.block _ (by omega)).trans K1)
  have X2 := hidp_ (show Below w.heap.size w w2 from B1.trans (B2.mono (by omega)))
  obtain ⟨g, hg⟩ : ∃ g, w.heap.size + 1 = g := ⟨_, rfl⟩
  rw [hg] at s1
  rw [s1] at O2
  have s2 := hidp_ (show g < w2.heap.size by rw [← hw2]; simp; omega)
  have HG := hidp_ hg
  have E2 := hidp_ (show ∀ k ∈ [g], w.heap.size ≤ k by simp; omega)
  have R2 := hidp_ ((hr.below X2.out).rdf (F := [g]) X2.out.size (by simp; omega))
  have c1 := bytes_any w2 g [] false [g] A n c l O2 R2.out hn (by simp; omega)
  rw [List.nil_append] at c1
  have LL := hidp_ (show (highB 4 n ++ l).length = 4 + n by rw [List.length_append, highB_len, hn])
  have HP := hidp_ HP0
  have HPL := hidp_ HPL0
  have ZL := hidp_ (show (List.replicate z (0 : UInt8)).length = z by simp)
  generalize List.replicate z (0 : UInt8) = Z at *
  generalize highB 4 n ++ l = L at *
  clear hr hn ht K1 B1 B2 O2 HP0 HPL0 hm hz
  go_enter Tryd.func26, Tryd.ntmps26
  go_wp2_with (first
    | (go_at_call 40; ((with_reducible refine cc.mono ?_); rintro e wc ⟨rfl, rfl⟩))
    | (go_at_call 20; ((with_reducible refine c1.mono ?_); clear c1; rintro e w3 ⟨rfl, F3, hO3, hG3, hU3⟩; have O3 := hidp_ hO3; have E3 := hidp_ (grew_gep hG3 E2.out X2.out.size); have X3 := hidp_ (below_untp X2.out (Nat.le_refl _) hU3 E2.out); have N3 := hidp_ (show RdF w3 F3 (some ⟨w.heap.size, 0, none⟩) Z from RdF.keep (fun hn => ⟨_, 0, rfl, by have := HG.out; simp; omega, K2.out.lt, fun j hj => by rw [Nat.zero_add]; exact K2.out.cell j hj⟩) hU3 hG3); clear hO3 hG3 hU3))
    | (go_at_call 32; have c2 := fixed_any w3 g L false F3 (some ⟨w.heap.size, 0, none⟩) z z Z O3.out N3.out ZL.out (by rw [LL.out]; omega); rw [← HP.out] at c2; ((with_reducible refine c2.mono ?_); clear c2; rintro e w4 ⟨rfl, F4, hO4, hG4, hU4⟩; have O4 := hidp_ hO4; have X4 := hidp_ (below_untp X3.out (Nat.le_refl _) hU4 E3.out); clear hO4 hG4 hU4))
    | (go_at_call 16; have c3 := done_any w4 g N (padB l) false F4 O4.out HPL.out (by omega); ((with_reducible refine c3.mono ?_); clear c3; rintro e w5 ⟨A5, c5, rfl, hO5, hB5⟩; have O5 := hidp_ (hO5.lower X4.out.size); have X5 := hidp_ (X4.out.trans (hB5.mono X4.out.size)); clear hO5 hB5)))
  go_ret2
  exact ⟨A5, c5, rfl, O5.out, X5.out⟩
end Go.Proofs.YtmomnfhoeabdnaaDoor

namespace Go.Proofs.YtmomnfhoeabdnaaDoor
set_option maxRecDepth 100000
open Go.ChangeShapes Go.WideShapes Go.ChangeAt Go.RowKit
set_option linter.unusedVariables false
set_option linter.unusedSimpArgs false

/-- What stands ahead in padded bytes. -/
def valB (s : List UInt8) : List UInt8 := (bytS 4000 s 0).1
def errB (s : List UInt8) : Int := (bytS 4000 s 0).2.2
/-- What they are cut to. -/
def cutB (s : List UInt8) : List UInt8 := if padB (valB s) = s then valB s else []
theorem fixS_len (n : Int) (l : List UInt8) (err : Int) : ((fixS n l err).1.length : Int) ≤ max n 0 := by
  unfold fixS
  split
  · simp; omega
  · split
    · simp; omega
    · simp [List.length_take]; omega
theorem numS_le4 (s : List UInt8) : (numS 4 4000 s 0).1 ≤ 4000 ∧ 0 ≤ (numS 4 4000 s 0).1 := by
  unfold numS
  split
  · simp
  · split
    · simp
    · split
      · simp
      · simp only
        omega
theorem valB_len (s : List UInt8) : (valB s).length ≤ 4000 := by
  have h := fixS_len (numS 4 4000 s 0).1 (numS 4 4000 s 0).2.1 (numS 4 4000 s 0).2.2
  have h2 := numS_le4 s
  have h3 : (valB s).length = (fixS (numS 4 4000 s 0).1 (numS 4 4000 s 0).2.1 (numS 4 4000 s 0).2.2).1.length := rfl
  omega
theorem fixS_err (n : Int) (l : List UInt8) (err : Int) (h : (fixS n l err).2.2 ≠ 0) : (fixS n l err).1 = [] := by
  unfold fixS at h ⊢
  split
  · rfl
  · split
    · rfl
    · rename_i h1 h2
      rw [if_neg h1, if_neg h2] at h
      exact absurd rfl h
theorem valB_err (s : List UInt8) (h : errB s ≠ 0) : valB s = [] := fixS_err _ _ _ h
theorem bytS_pad (v : List UInt8) (hv : v.length ≤ 4000) : valB (padB v) = v ∧ errB (padB v) = 0 := by
  obtain ⟨Z, hZ⟩ : ∃ Z, List.replicate (clsS v.length - 4 - v.length) (0 : UInt8) = Z := ⟨_, rfl⟩
  have hp : padB v = highB 4 v.length ++ (v ++ Z) := by rw [padB, hZ, List.append_assoc]
  have e : (highB 4 v.length).length = 4 := highB_len 4 v.length
  have h1 : (padB v).take 4 = highB 4 v.length := by rw [hp]; exact List.take_left' e
  have h2 : (padB v).drop 4 = v ++ Z := by rw [hp]; exact List.drop_left' e
  have hl : ¬ (padB v).length < 4 := by rw [hp, List.length_append, e]; omega
  have hb : beN ((padB v).take 4) = v.length := by
    rw [h1, beN_highB]
    have : (256 : Nat) ^ 4 = 4294967296 := by decide
    omega
  have hn : numS 4 4000 (padB v) 0 = ((v.length : Int), v ++ Z, 0) := by
    rw [numS_yes hl (by rw [hb]; omega), hb, h2]
  have hf : fixS (v.length : Int) (v ++ Z) 0 = (v, (v ++ Z).drop v.length, 0) := by
    by_cases h0 : v.length = 0
    · have : v = [] := List.eq_nil_of_length_eq_zero h0
      subst this
      rfl
    · rw [fixS_yes (by omega) (by simp), List.take_left' rfl]
  have hb2 : bytS 4000 (padB v) 0 = (v, (v ++ Z).drop v.length, 0) := by unfold bytS; rw [hn]; exact hf
  exact ⟨by unfold valB; rw [hb2], by unfold errB; rw [hb2]⟩
theorem cut_ok_err (s : List UInt8) (h : padB (valB s) = s) : errB s = 0 := by
  have h1 := (bytS_pad (valB s) (valB_len s)).2
  rwa [h] at h1
theorem cutB_pad (v : List UInt8) (hv : v.length ≤ 4000) : cutB (padB v) = v ∧ padB (valB (padB v)) = padB v := by
  have h := (bytS_pad v hv).1
  unfold cutB
  rw [h]
  exact ⟨if_pos rfl, rfl⟩

/-- What Cut leaves. -/
def CutP (w : World) (s : List UInt8) (code : Int) (e : Ending) (w' : World) : Prop := ∃ A m c, e = .returned (.tuple #[.slice A m c, .int .i64 code]) ∧ m = (cutB s).length ∧ Own8 w' w.heap.size (.slice A m c) (cutB s) ∧ Below w.heap.size w w'

end Go.Proofs.YtmomnfhoeabdnaaDoor

namespace Go.Proofs.YtmomnfhoeabdnaaDoor
set_option maxRecDepth 100000
open Go.RowKit
set_option linter.unusedVariables false
set_option linter.unusedSimpArgs false

theorem hidxa_ {p : Prop} (h : p) : Hid p := h
/-- The walk finds whether a number lies within bounds. -/
theorem within_any (w : World) (n a b : Int) : Calls Tryd.prog 25 #[.int .i64 n, .int .i64 a, .int .i64 b] w fun e w' => e = .returned (.bool (decide (a ≤ n ∧ n ≤ b))) ∧ w = w' := by
  by_cases h : a ≤ n
  · have d1 : decide (a ≤ n) = true := decide_eq_true h
    rw [show decide (a ≤ n ∧ n ≤ b) = decide (n ≤ b) by simp [h]]
    clear h
    go_enter Tryd.func25, Tryd.ntmps25
    go_wp2
    go_ret
    exact ⟨rfl, rfl⟩
  · have d1 : decide (a ≤ n) = false := decide_eq_false h
    rw [show decide (a ≤ n ∧ n ≤ b) = false by simp [h]]
    clear h
    go_enter Tryd.func25, Tryd.ntmps25
    go_wp2
    go_ret
    exact ⟨rfl, rfl⟩
theorem isName_any (w : World) (A : Option Addr) (n c : Nat) : Calls Tryd.prog 11 #[.slice A n c] w fun e w' => e = .returned (.bool (decide (1 ≤ n) && decide (n ≤ 64))) ∧ w = w' := by
  have cw := within_any w (n : Int) 1 64
  rw [show decide ((1 : Int) ≤ (n : Int) ∧ (n : Int) ≤ 64) = (decide (1 ≤ n) && decide (n ≤ 64)) by rw [← Bool.decide_and, decide_eq_decide]; omega] at cw
  go_enter Tryd.func11, Tryd.ntmps11
  go_wp2_with (go_at_call 25; ((with_reducible refine cw.mono ?_); clear cw; rintro e w' ⟨rfl, rfl⟩))
  go_ret
  exact ⟨rfl, rfl⟩
/-- A head by value. -/
structure HeadV where
  e : Int
  n : Int
  c : Int
  d : Int
  pa : Option Addr
  pl : List UInt8
  pc : Nat
def HeadV.row (h : HeadV) : Array Value := #[.int .i64 h.e, .int .i64 h.n, .int .i64 h.c, .int .i64 h.d, .slice h.pa h.pl.length h.pc]
def HeadV.Ok (h : HeadV) : Prop := (1 ≤ h.e ∧ h.e ≤ 1048576) ∧ (1 ≤ h.n ∧ h.n ≤ 4611686018427387904) ∧ (1 ≤ h.c ∧ h.c ≤ 16) ∧ (1 ≤ h.d ∧ h.d ≤ 1099511627776) ∧ h.pl.length ≤ 4096
instance (h : HeadV) : Decidable h.Ok := by unfold HeadV.Ok; infer_instance
theorem head_cells {w : World} {B : Nat} {h : HeadV} (k : Bk w B 35 h.row) : w.cell? ⟨B, 0, none⟩ = some (.int .i64 h.e) ∧ w.cell? ⟨B, 1, none⟩ = some (.int .i64 h.n) ∧ w.cell? ⟨B, 2, none⟩ = some (.int .i64 h.c) ∧ w.cell? ⟨B, 3, none⟩ = some (.int .i64 h.d) ∧ w.cell? ⟨B, 4, none⟩ = some (.slice h.pa h.pl.length h.pc) := ⟨k.cell 0, k.cell 1, k.cell 2, k.cell 3, k.cell 4⟩
theorem head_one (h : HeadV) : h.row.all (·.oneCell') = true := by simp [HeadV.row, Value.oneCell']
theorem iHead (h : HeadV) : (Tryd.prog.info? 35).map (·.size) = some h.row.size := by kernel_rfl
set_option maxRecDepth 100000 in
set_option maxHeartbeats 4000000 in
theorem isHead_any (w : World) (h : HeadV) : Calls Tryd.prog 12 #[.agg h.row] w fun e w' => e = .returned (.bool (decide h.Ok)) ∧ Below w.heap.size w w' := by
  obtain ⟨g, hg⟩ : ∃ g, w.heap.size = g := ⟨_, rfl⟩
  obtain ⟨w1, hw1⟩ : ∃ W, w.alloc (.cells h.row 35) = W := ⟨_, rfl⟩
  have B1 := hidxa_ (show Below w.heap.size w w1 by rw [← hw1]; exact (Below.refl _ _).alloc (Nat.le_refl _) _)
  obtain ⟨k0, k1, k2, k3, k4⟩ := head_cells (show Bk w1 g 35 h.row by rw [← hw1, ← hg]; exact Bk.new w _ _)
  have e1 := within_any w1 h.e 1 1048576
  have e2 := within_any w1 h.n 1 4611686018427387904
  have e3 := within_any w1 h.c 1 16
  have e4 := within_any w1 h.d 1 1099511627776
  obtain ⟨he, hn, hc, hd, pa, pl, pc⟩ := h
  unfold HeadV.Ok
  simp only at k0 k1 k2 k3 k4 e1 e2 e3 e4 ⊢
  by_cases h1 : 1 ≤ he ∧ he ≤ 1048576
  · rw [decide_eq_true h1] at e1
    by_cases h2 : 1 ≤ hn ∧ hn ≤ 4611686018427387904
    · rw [decide_eq_true h2] at e2
      by_cases h3 : 1 ≤ hc ∧ hc ≤ 16
      · rw [decide_eq_true h3] at e3
        by_cases h4 : 1 ≤ hd ∧ hd ≤ 1099511627776
        · rw [decide_eq_true h4] at e4
          have h5 : decide ((1 ≤ he ∧ he ≤ 1048576) ∧ (1 ≤ hn ∧ hn ≤ 4611686018427387904) ∧ (1 ≤ hc ∧ hc ≤ 16) ∧ (1 ≤ hd ∧ hd ≤ 1099511627776) ∧ pl.length ≤ 4096) = decide ((pl.length : Int) ≤ 4096) := by
            rw [decide_eq_decide]
            exact ⟨fun h => by omega, fun h => ⟨h1, h2, h3, h4, by omega⟩⟩
          rw [h5]
          clear h1 h2 h3 h4 h5
          by_cases h6 : pl.length ≤ 4096
          · have d1 : decide ((pl.length : Int) ≤ 4096) = true := decide_eq_true (by omega)
            have d2 : decide (pl.length ≤ 4096) = true := decide_eq_true h6
            rw [d1]
            clear h6
            go_enter Tryd.func12, Tryd.ntmps12
            go_wp2_with (first
              | (go_at_call 25; ((with_reducible refine e1.mono ?_); clear e1; rintro e w' ⟨rfl, rfl⟩))
              | (go_at_call 25; ((with_reducible refine e2.mono ?_); clear e2; rintro e w' ⟨rfl, rfl⟩))
              | (go_at_call 25; ((with_reducible refine e3.mono ?_); clear e3; rintro e w' ⟨rfl, rfl⟩))
              | (go_at_call 25; ((with_reducible refine e4.mono ?_); clear e4; rintro e w' ⟨rfl, rfl⟩)))
            go_ret
            exact ⟨rfl, B1.out⟩
          · have d1 : decide ((pl.length : Int) ≤ 4096) = false := decide_eq_false (by omega)
            have d2 : decide (pl.length ≤ 4096) = false := decide_eq_false h6
            rw [d1]
            clear h6
            go_enter Tryd.func12, Tryd.ntmps12
            go_wp2_with (first
              | (go_at_call 25; ((with_reducible refine e1.mono ?_); clear e1; rintro e w' ⟨rfl, rfl⟩))
              | (go_at_call 25; ((with_reducible refine e2.mono ?_); clear e2; rintro e w' ⟨rfl, rfl⟩))
              | (go_at_call 25; ((with_reducible refine e3.mono ?_); clear e3; rintro e w' ⟨rfl, rfl⟩))
              | (go_at_call 25; ((with_reducible refine e4.mono ?_); clear e4; rintro e w' ⟨rfl, rfl⟩)))
            go_ret
            exact ⟨rfl, B1.out⟩
        · rw [decide_eq_false h4] at e4
          have h5 : decide ((1 ≤ he ∧ he ≤ 1048576) ∧ (1 ≤ hn ∧ hn ≤ 4611686018427387904) ∧ (1 ≤ hc ∧ hc ≤ 16) ∧ (1 ≤ hd ∧ hd ≤ 1099511627776) ∧ pl.length ≤ 4096) = false := decide_eq_false (fun h => h4 h.2.2.2.1)
          rw [h5]
          clear h1 h2 h3 h4 h5
          go_enter Tryd.func12, Tryd.ntmps12
          go_wp2_with (first
            | (go_at_call 25; ((with_reducible refine e1.mono ?_); clear e1; rintro e w' ⟨rfl, rfl⟩))
            | (go_at_call 25; ((with_reducible refine e2.mono ?_); clear e2; rintro e w' ⟨rfl, rfl⟩))
            | (go_at_call 25; ((with_reducible refine e3.mono ?_); clear e3; rintro e w' ⟨rfl, rfl⟩))
            | (go_at_call 25; ((with_reducible refine e4.mono ?_); clear e4; rintro e w' ⟨rfl, rfl⟩)))
          go_ret
          exact ⟨rfl, B1.out⟩
      · rw [decide_eq_false h3] at e3
        have h5 : decide ((1 ≤ he ∧ he ≤ 1048576) ∧ (1 ≤ hn ∧ hn ≤ 4611686018427387904) ∧ (1 ≤ hc ∧ hc ≤ 16) ∧ (1 ≤ hd ∧ hd ≤ 1099511627776) ∧ pl.length ≤ 4096) = false := decide_eq_false (fun h => h3 h.2.2.1)
        rw [h5]
        clear h1 h2 h3 h5 e4
        go_enter Tryd.func12, Tryd.ntmps12
        go_wp2_with (first
          | (go_at_call 25; ((with_reducible refine e1.mono ?_); clear e1; rintro e w' ⟨rfl, rfl⟩))
          | (go_at_call 25; ((with_reducible refine e2.mono ?_); clear e2; rintro e w' ⟨rfl, rfl⟩))
          | (go_at_call 25; ((with_reducible refine e3.mono ?_); clear e3; rintro e w' ⟨rfl, rfl⟩)))
        go_ret
        exact ⟨rfl, B1.out⟩
    · rw [decide_eq_false h2] at e2
      have h5 : decide ((1 ≤ he ∧ he ≤ 1048576) ∧ (1 ≤ hn ∧ hn ≤ 4611686018427387904) ∧ (1 ≤ hc ∧ hc ≤ 16) ∧ (1 ≤ hd ∧ hd ≤ 1099511627776) ∧ pl.length ≤ 4096) = false := decide_eq_false (fun h => h2 h.2.1)
      rw [h5]
      clear h1 h2 h5 e3 e4
      go_enter Tryd.func12, Tryd.ntmps12
      go_wp2_with (first
        | (go_at_call 25; ((with_reducible refine e1.mono ?_); clear e1; rintro e w' ⟨rfl, rfl⟩))
        | (go_at_call 25; ((with_reducible refine e2.mono ?_); clear e2; rintro e w' ⟨rfl, rfl⟩)))
      go_ret
      exact ⟨rfl, B1.out⟩
  · rw [decide_eq_false h1] at e1
    have h5 : decide ((1 ≤ he ∧ he ≤ 1048576) ∧ (1 ≤ hn ∧ hn ≤ 4611686018427387904) ∧ (1 ≤ hc ∧ hc ≤ 16) ∧ (1 ≤ hd ∧ hd ≤ 1099511627776) ∧ pl.length ≤ 4096) = false := decide_eq_false (fun h => h1 h.1)
    rw [h5]
    clear h1 h5 e2 e3 e4
    go_enter Tryd.func12, Tryd.ntmps12
    go_wp2_with (first
      | (go_at_call 25; ((with_reducible refine e1.mono ?_); clear e1; rintro e w' ⟨rfl, rfl⟩)))
    go_ret
    exact ⟨rfl, B1.out⟩
end Go.Proofs.YtmomnfhoeabdnaaDoor

namespace Go.Proofs.YtmomnfhoeabdnaaDoor
set_option maxRecDepth 100000
open Go.ChangeShapes Go.WideShapes Go.ChangeAt Go.RowKit
set_option linter.unusedVariables false
set_option linter.unusedSimpArgs false

theorem hidxb_ {p : Prop} (h : p) : Hid p := h
/-- The operations ix come one behind the other; S m: what holds when m of them are done. -/
def ChJ (ix : List Nat) (S : Nat → World → Prop) (D : Nat → Bool) (W : World) : Prop := ∃ m, m ≤ ix.length ∧ (∀ i, (hi : i < ix.length) → D ix[i] = decide (i < m)) ∧ S m W
section
variable {ix : List Nat} {S : Nat → World → Prop} {D : Nat → Bool} {W W' : World}
theorem ChJ.same (h : ChJ ix S D W) (i : Nat) (hi : i ∉ ix) : ChJ ix S (fun j => decide (j = i) || D j) W := by
  obtain ⟨m, h1, h2, h3⟩ := h
  refine ⟨m, h1, fun k hk => ?_, h3⟩
  have hne : ix[k] ≠ i := fun e => hi (e ▸ List.getElem_mem hk)
  show (decide (ix[k] = i) || D ix[k]) = decide (k < m)
  rw [decide_eq_false hne, Bool.false_or]
  exact h2 k hk
/-- The k-th of them is done now. -/
theorem ChJ.at_ (h : ChJ ix S D W) (k : Nat) (hk : k < ix.length) (hL : D ix[k] = false) (hW : ∀ j, (hj : j < ix.length) → j + 1 = k → D ix[j] = true) : S k W ∧ ∀ i, (hi : i < ix.length) → D ix[i] = decide (i < k) := by
  obtain ⟨m, h1, h2, h3⟩ := h
  have e1 := h2 k hk
  rw [hL] at e1
  have e2 : ¬ k < m := by
    intro hlt
    rw [decide_eq_true hlt] at e1
    cases e1
  have e3 : m = k := by
    rcases Nat.eq_zero_or_pos k with h0 | h0
    · omega
    · have e4 := h2 (k - 1) (by omega)
      rw [hW (k - 1) (by omega) (by omega)] at e4
      have e5 : k - 1 < m := by
        by_cases h5 : k - 1 < m
        · exact h5
        · rw [decide_eq_false h5] at e4; cases e4
      omega
  subst e3
  exact ⟨h3, h2⟩
theorem ChJ.next (k : Nat) (hk : k < ix.length) (hn : ix.Nodup) (hd : ∀ i, (hi : i < ix.length) → D ix[i] = decide (i < k)) (hS : S (k + 1) W') : ChJ ix S (fun j => decide (j = ix[k]) || D j) W' := by
  refine ⟨k + 1, hk, fun i hi => ?_, hS⟩
  by_cases e : i = k
  · subst e
    show (decide (ix[i] = ix[i]) || D ix[i]) = decide (i < i + 1)
    rw [decide_eq_true rfl, Bool.true_or]
    exact (decide_eq_true (by omega)).symm
  · have hne : ix[i] ≠ ix[k] := fun e2 => e ((List.getElem_inj hn).1 e2)
    show (decide (ix[i] = ix[k]) || D ix[i]) = decide (i < k + 1)
    rw [decide_eq_false hne, Bool.false_or, hd i hi, decide_eq_decide]
    omega
theorem ChJ.start (h : S 0 W) : ChJ ix S (fun _ => false) W := ⟨0, Nat.zero_le _, fun i hi => by simp, h⟩
theorem ChJ.last (h : ChJ ix S D W) (k : Nat) (hk : k < ix.length) (hl : k + 1 = ix.length) (hD : D ix[k] = true) : S (k + 1) W := by
  obtain ⟨m, h1, h2, h3⟩ := h
  have e1 := h2 k hk
  rw [hD] at e1
  have : m = k + 1 := by
    by_cases h5 : k < m
    · omega
    · rw [decide_eq_false h5] at e1; cases e1
  rw [← this]
  exact h3
end
/-- What bytes are bound to. -/
def boundB (K : List UInt8) (h : HeadV) : List UInt8 := K ++ highB 8 h.e.toNat ++ highB 8 h.n.toNat ++ highB 8 h.c.toNat ++ highB 8 h.d.toNat ++ highB 4 h.pl.length ++ h.pl
theorem boundB_len (K : List UInt8) (hK : K.length = 32) (h : HeadV) : (boundB K h).length = 68 + h.pl.length := by
  unfold boundB
  simp only [List.length_append, highB_len, hK]
def bndL (K : List UInt8) (h : HeadV) : List (List UInt8) := [[], K, K ++ highB 8 h.e.toNat, K ++ highB 8 h.e.toNat ++ highB 8 h.n.toNat, K ++ highB 8 h.e.toNat ++ highB 8 h.n.toNat ++ highB 8 h.c.toNat, K ++ highB 8 h.e.toNat ++ highB 8 h.n.toNat ++ highB 8 h.c.toNat ++ highB 8 h.d.toNat, boundB K h]
/-- The Out when m of the chain's calls are done. -/
def BnS (b g : Nat) (K : List UInt8) (h : HeadV) : Nat → World → Prop
  | 0, W => W.heap.size = b
  | m + 1, W => ∃ F, (∀ k ∈ F, b ≤ k) ∧ OutF W g ((bndL K h).getD m []) false F
def BnR (gK gH g : Nat) (h : HeadV) : Nat → Value → World → Prop
  | 0, u, _ => u = .pointer (some ⟨g, 0, none⟩)
  | 1, u, _ => u = .slice (some ⟨gK, 0, none⟩) 32 32
  | 2, u, _ => u = .pointer (some ⟨g, 0, none⟩)
  | 3, u, _ => u = .pointer (some ⟨gH, 0, none⟩)
  | 4, u, _ => u = .int .i64 h.e
  | 5, u, _ => u = .pointer (some ⟨g, 0, none⟩)
  | 6, u, _ => u = .pointer (some ⟨gH, 1, none⟩)
  | 7, u, _ => u = .int .i64 h.n
  | 8, u, _ => u = .pointer (some ⟨g, 0, none⟩)
  | 9, u, _ => u = .pointer (some ⟨gH, 2, none⟩)
  | 10, u, _ => u = .pointer (some ⟨gH, 2, none⟩)
  | 11, u, _ => u = .int .i64 h.c
  | 12, u, _ => u = .pointer (some ⟨g, 0, none⟩)
  | 13, u, _ => u = .pointer (some ⟨gH, 2, none⟩)
  | 14, u, _ => u = .pointer (some ⟨gH, 3, none⟩)
  | 15, u, _ => u = .int .i64 h.d
  | 16, u, _ => u = .pointer (some ⟨g, 0, none⟩)
  | 17, u, _ => u = .pointer (some ⟨gH, 4, none⟩)
  | 18, u, _ => u = .slice h.pa h.pl.length h.pc
  | 19, u, _ => u = .pointer (some ⟨g, 0, none⟩)
  | 20, u, _ => u = .pointer (some ⟨g, 0, none⟩)
  | _, _, _ => True
theorem BnR.any {gK gH g : Nat} {h : HeadV} {j : Nat} {v : Value} {W W' : World} (hh : BnR gK gH g h j v W) : BnR gK gH g h j v W' := by
  unfold BnR at hh ⊢
  split at hh <;> first | exact hh | trivial
set_option maxRecDepth 100000 in
set_option maxHeartbeats 8000000 in
theorem bound_at (w : World) (K : List UInt8) (hK : K.length = 32) (h : HeadV) (hok : h.Ok) (hp : Rd w w.heap.size h.pa h.pl) :
    Calls Tryd.prog 15 #[.agg (rowOf K), .agg h.row] w fun r w' => r = .returned (.pointer (some ⟨w.heap.size + 2, 0, none⟩)) ∧ ∃ F, OutF w' (w.heap.size + 2) (boundB K h) false F ∧ (∀ k ∈ F, w.heap.size ≤ k) ∧ Below w.heap.size w w' := by
  obtain ⟨gK, hgK⟩ : ∃ g, w.heap.size = g := ⟨_, rfl⟩
  obtain ⟨w0, hw0⟩ : ∃ W, w.alloc (.cells (rowOf K) 36) = W := ⟨_, rfl⟩
  have B0 : Below w.heap.size w w0 := by rw [← hw0]; exact (Below.refl _ _).alloc (Nat.le_refl _) _
  have K0 : Bk w0 gK 36 (rowOf K) := by rw [← hw0, ← hgK]; exact Bk.new w _ _
  obtain ⟨w1, hw1⟩ : ∃ W, w0.alloc (.cells h.row 35) = W := ⟨_, rfl⟩
  have B1 : Below w0.heap.size w0 w1 := by rw [← hw1]; exact (Below.refl _ _).alloc (Nat.le_refl _) _
  obtain ⟨gH, hgH⟩ : ∃ g, w0.heap.size = g := ⟨_, rfl⟩
  have H1 := hidxb_ (show Bk w1 gH 35 h.row by rw [← hw1, ← hgH]; exact Bk.new w0 _ _)
  have K1 := hidxb_ (K0.below B1 K0.lt)
  have X1 := hidxb_ (B0.trans (B1.mono B0.size))
  have KL := hidxb_ hK
  have OK := hidxb_ hok
  have RP := hidxb_ ((hp.below X1.out).more X1.out.size)
  have LK := hidxb_ (show ∀ W, Below w1.heap.size w1 W → W.cell? ⟨gH, 0, none⟩ = some (.int .i64 h.e) ∧ W.cell? ⟨gH, 1, none⟩ = some (.int .i64 h.n) ∧ W.cell? ⟨gH, 2, none⟩ = some (.int .i64 h.c) ∧ W.cell? ⟨gH, 3, none⟩ = some (.int .i64 h.d) ∧ W.cell? ⟨gH, 4, none⟩ = some (.slice h.pa h.pl.length h.pc) from fun W hW => head_cells (H1.out.below hW H1.out.lt))
  obtain ⟨g, hg⟩ : ∃ g, w1.heap.size = g := ⟨_, rfl⟩
  have HG := hidxb_ hg
  have HGW := hidxb_ (show g = w.heap.size + 2 by rw [← hg, ← hw1, ← hw0]; simp)
  have KK1 := hidxb_ (show gK < w1.heap.size from K1.out.lt)
  clear hK hok hp K0 B0 B1
  go_enter Tryd.func15, Tryd.ntmps15
  go_upto_region 1 with fail
  rename_i K9 hK9
  clear hw0 hw1 hgK hgH hg
  have LB := hidxb_ (show ∀ m, ((bndL K h).getD m []).length ≤ 5000 from fun m => by
    have hp := OK.out.2.2.2.2
    rcases m with _ | _ | _ | _ | _ | _ | _ | m
    all_goals simp only [bndL, boundB, List.getD_cons_zero, List.getD_cons_succ, List.getD_nil, List.length_append, List.length_nil, highB_len, KL.out]
    all_goals omega)
  refine region_byJF [5, 6, 7, 8, 9, 10, 11, 12, 13, 14, 15, 16, 17, 18, 19, 20, 21, 22, 23, 24, 4] (fun W => Below w1.heap.size w1 W) (fun _ _ => True) (BnR gK gH g h) (fun D _ W => ChJ [0, 2, 5, 8, 12, 16, 19] (BnS w1.heap.size g K h) D W) (by kernel_rfl) (by kernel_rfl) (by kernel_rfl) (by kernel_rfl) (fun j v w w' hT hr => hr.any) (fun j v w hlt hj _ => ?_) ((Below.refl _ _).drew) ?_ (ChJ.start rfl) ?_
  · rcases j with _ | _ | _ | _ | _ | _ | _ | _ | _ | _ | _ | _ | _ | _ | _ | _ | _ | _ | _ | _ | _ | j
    all_goals first
      | (exfalso; simp [dstOf] at hj; done)
      | trivial
  · refine ⟨fun D a W hC hd hsz hf hv hJ hL hW K9 hK => ?_, fun D a W hC hd hsz hf hv hJ hL hW K9 hK => ?_, fun D a W hC hd hsz hf hv hJ hL hW K9 hK => ?_, fun D a W hC hd hsz hf hv hJ hL hW K9 hK => ?_, fun D a W hC hd hsz hf hv hJ hL hW K9 hK => ?_, fun D a W hC hd hsz hf hv hJ hL hW K9 hK => ?_, fun D a W hC hd hsz hf hv hJ hL hW K9 hK => ?_, fun D a W hC hd hsz hf hv hJ hL hW K9 hK => ?_, fun D a W hC hd hsz hf hv hJ hL hW K9 hK => ?_, fun D a W hC hd hsz hf hv hJ hL hW K9 hK => ?_, fun D a W hC hd hsz hf hv hJ hL hW K9 hK => ?_, fun D a W hC hd hsz hf hv hJ hL hW K9 hK => ?_, fun D a W hC hd hsz hf hv hJ hL hW K9 hK => ?_, fun D a W hC hd hsz hf hv hJ hL hW K9 hK => ?_, fun D a W hC hd hsz hf hv hJ hL hW K9 hK => ?_, fun D a W hC hd hsz hf hv hJ hL hW K9 hK => ?_, fun D a W hC hd hsz hf hv hJ hL hW K9 hK => ?_, fun D a W hC hd hsz hf hv hJ hL hW K9 hK => ?_, fun D a W hC hd hsz hf hv hJ hL hW K9 hK => ?_, fun D a W hC hd hsz hf hv hJ hL hW K9 hK => ?_, fun D a W hC hd hsz hf hv hJ hL hW K9 hK => ?_, trivial⟩
    · clear hsz
      obtain ⟨hS, hd⟩ := hJ.at_ 0 (by decide) hL (fun j hj e => by omega)
      have hS2 : W.heap.size = w1.heap.size := hS
      have hgW : W.heap.size = g := hS2.trans HG.out
      have hzO : (zeroValue 81).run Tryd.prog W = .ok (.agg #[.pointer none, .int .i64 0, .bool false]) W := by kernel_rfl
      have hb : Below W.heap.size W (W.alloc (.cells #[.pointer none, .int .i64 0, .bool false] 81)) := (Below.refl _ _).alloc (Nat.le_refl _) _
      have hO := OutF.zero W
      rw [hgW] at hO
      refine step_run (wanted_none rfl) (v := .pointer (some ⟨g, 0, none⟩)) (w' := W.alloc (.cells #[.pointer none, .int .i64 0, .bool false] 81)) ?_ (hK _ _ (hC.trans (hb.mono hC.size)) trivial rfl (ChJ.next 0 (by decide) (by decide) hd ⟨[g], fun k hk => by rw [List.mem_singleton.1 hk, HG.out]; exact Nat.le_refl _, hO⟩))
      rw [← hgW]
      go_simp
    · clear hsz
      have e1 := slot_of (a := a) (s := 2) (v := .pointer (some ⟨gK, 0, none⟩)) (hf 2 (by kernel_rfl))
      have sl := slice_allB gK
      refine step_run (wanted_none rfl) (v := .slice (some ⟨gK, 0, none⟩) 32 32) (w' := W) ?_ (hK _ _ hC trivial rfl (hJ.same 1 (by decide)))
      go_simp
    · clear hsz
      have e1 := slot_of (a := a) (s := 5) (v := .pointer (some ⟨g, 0, none⟩)) (hv 0 (by kernel_rfl))
      have e2 := slot_of (a := a) (s := 6) (v := .slice (some ⟨gK, 0, none⟩) 32 32) (hv 1 (by kernel_rfl))
      obtain ⟨⟨F, hFb, hO⟩, hd⟩ := hJ.at_ 1 (by decide) hL (fun j hj e => by have hj0 : j = 0 := (by omega); subst hj0; exact hW 0 (by kernel_rfl))
      have cc : Calls Tryd.prog 32 #[.pointer (some ⟨g, 0, none⟩), .slice (some ⟨gK, 0, none⟩) 32 32] W (OutP W g ((bndL K h).getD 1 []) false F) := fixed_any W g [] false F (some ⟨gK, 0, none⟩) 32 32 K hO (fun _ => ⟨gK, 0, rfl, fun hm => by have := hFb gK hm; have := KK1.out; omega, Nat.lt_of_lt_of_le KK1.out hC.size, fun j hj => by rw [Nat.zero_add]; exact ((K1.out.below hC K1.out.lt).cell j).trans (rowOf_at K j hj)⟩) KL.out (by simp)
      refine step_callx 32 #[.pointer (some ⟨g, 0, none⟩), .slice (some ⟨gK, 0, none⟩) 32 32] (wanted_none rfl) (w' := W) ?_ (cc.mono fun e W2 hh => ?_)
      · go_simp
      · obtain ⟨rfl, F2, hO2, hGr, hU⟩ := hh
        have hF2 : ∀ k ∈ F2, w1.heap.size ≤ k := fun k hk => (hGr k hk).elim (hFb k) (fun h => Nat.le_trans hC.size h)
        exact ⟨_, rfl, hK _ _ (hC.trans (hU.below hFb hC.size)) trivial rfl (ChJ.next 1 (by decide) (by decide) hd ⟨F2, hF2, hO2⟩)⟩
    · clear hsz
      have e1 := slot_of (a := a) (s := 3) (v := .pointer (some ⟨gH, 0, none⟩)) (hf 3 (by kernel_rfl))
      refine step_run (wanted_none rfl) (v := .pointer (some ⟨gH, 0, none⟩)) (w' := W) ?_ (hK _ _ hC trivial rfl (hJ.same 3 (by decide)))
      go_simp
    · clear hsz
      have e1 := slot_of (a := a) (s := 8) (v := .pointer (some ⟨gH, 0, none⟩)) (hv 3 (by kernel_rfl))
      obtain ⟨k0, k1, k2, k3, k4⟩ := LK.out W hC
      refine step_run (wanted_none rfl) (v := .int .i64 h.e) (w' := W) ?_ (hK _ _ hC trivial rfl (hJ.same 4 (by decide)))
      go_simp
    · clear hsz
      have e1 := slot_of (a := a) (s := 7) (v := .pointer (some ⟨g, 0, none⟩)) (hv 2 (by kernel_rfl))
      have e2 := slot_of (a := a) (s := 9) (v := .int .i64 h.e) (hv 4 (by kernel_rfl))
      obtain ⟨⟨F, hFb, hO⟩, hd⟩ := hJ.at_ 2 (by decide) hL (fun j hj e => by have hj0 : j = 1 := (by omega); subst hj0; exact hW 2 (by kernel_rfl))
      have cc : Calls Tryd.prog 33 #[.pointer (some ⟨g, 0, none⟩), .int .i64 h.e] W (OutP W g ((bndL K h).getD 2 []) false F) := (by
        have hz : (h.e.toNat : Int) = h.e := by have := OK.out.1; omega
        have h0 := num_any W g ((bndL K h).getD 1 []) false F h.e.toNat hO (by have := OK.out.1; omega) (by have := LB.out 1; omega)
        rw [hz] at h0
        exact h0)
      refine step_callx 33 #[.pointer (some ⟨g, 0, none⟩), .int .i64 h.e] (wanted_none rfl) (w' := W) ?_ (cc.mono fun e W2 hh => ?_)
      · go_simp
      · obtain ⟨rfl, F2, hO2, hGr, hU⟩ := hh
        have hF2 : ∀ k ∈ F2, w1.heap.size ≤ k := fun k hk => (hGr k hk).elim (hFb k) (fun h => Nat.le_trans hC.size h)
        exact ⟨_, rfl, hK _ _ (hC.trans (hU.below hFb hC.size)) trivial rfl (ChJ.next 2 (by decide) (by decide) hd ⟨F2, hF2, hO2⟩)⟩
    · clear hsz
      have e1 := slot_of (a := a) (s := 3) (v := .pointer (some ⟨gH, 0, none⟩)) (hf 3 (by kernel_rfl))
      refine step_run (wanted_none rfl) (v := .pointer (some ⟨gH, 1, none⟩)) (w' := W) ?_ (hK _ _ hC trivial rfl (hJ.same 6 (by decide)))
      go_simp
    · clear hsz
      have e1 := slot_of (a := a) (s := 11) (v := .pointer (some ⟨gH, 1, none⟩)) (hv 6 (by kernel_rfl))
      obtain ⟨k0, k1, k2, k3, k4⟩ := LK.out W hC
      refine step_run (wanted_none rfl) (v := .int .i64 h.n) (w' := W) ?_ (hK _ _ hC trivial rfl (hJ.same 7 (by decide)))
      go_simp
    · clear hsz
      have e1 := slot_of (a := a) (s := 10) (v := .pointer (some ⟨g, 0, none⟩)) (hv 5 (by kernel_rfl))
      have e2 := slot_of (a := a) (s := 12) (v := .int .i64 h.n) (hv 7 (by kernel_rfl))
      obtain ⟨⟨F, hFb, hO⟩, hd⟩ := hJ.at_ 3 (by decide) hL (fun j hj e => by have hj0 : j = 2 := (by omega); subst hj0; exact hW 5 (by kernel_rfl))
      have cc : Calls Tryd.prog 33 #[.pointer (some ⟨g, 0, none⟩), .int .i64 h.n] W (OutP W g ((bndL K h).getD 3 []) false F) := (by
        have hz : (h.n.toNat : Int) = h.n := by have := OK.out.2.1; omega
        have h0 := num_any W g ((bndL K h).getD 2 []) false F h.n.toNat hO (by have := OK.out.2.1; omega) (by have := LB.out 2; omega)
        rw [hz] at h0
        exact h0)
      refine step_callx 33 #[.pointer (some ⟨g, 0, none⟩), .int .i64 h.n] (wanted_none rfl) (w' := W) ?_ (cc.mono fun e W2 hh => ?_)
      · go_simp
      · obtain ⟨rfl, F2, hO2, hGr, hU⟩ := hh
        have hF2 : ∀ k ∈ F2, w1.heap.size ≤ k := fun k hk => (hGr k hk).elim (hFb k) (fun h => Nat.le_trans hC.size h)
        exact ⟨_, rfl, hK _ _ (hC.trans (hU.below hFb hC.size)) trivial rfl (ChJ.next 3 (by decide) (by decide) hd ⟨F2, hF2, hO2⟩)⟩
    · clear hsz
      have e1 := slot_of (a := a) (s := 3) (v := .pointer (some ⟨gH, 0, none⟩)) (hf 3 (by kernel_rfl))
      refine step_run (wanted_none rfl) (v := .pointer (some ⟨gH, 2, none⟩)) (w' := W) ?_ (hK _ _ hC trivial rfl (hJ.same 9 (by decide)))
      go_simp
    · clear hsz
      have e1 := slot_of (a := a) (s := 14) (v := .pointer (some ⟨gH, 2, none⟩)) (hv 9 (by kernel_rfl))
      refine step_run (wanted_none rfl) (v := .pointer (some ⟨gH, 2, none⟩)) (w' := W) ?_ (hK _ _ hC trivial rfl (hJ.same 10 (by decide)))
      go_simp
    · clear hsz
      have e1 := slot_of (a := a) (s := 15) (v := .pointer (some ⟨gH, 2, none⟩)) (hv 10 (by kernel_rfl))
      obtain ⟨k0, k1, k2, k3, k4⟩ := LK.out W hC
      refine step_run (wanted_none rfl) (v := .int .i64 h.c) (w' := W) ?_ (hK _ _ hC trivial rfl (hJ.same 11 (by decide)))
      go_simp
    · clear hsz
      have e1 := slot_of (a := a) (s := 13) (v := .pointer (some ⟨g, 0, none⟩)) (hv 8 (by kernel_rfl))
      have e2 := slot_of (a := a) (s := 16) (v := .int .i64 h.c) (hv 11 (by kernel_rfl))
      obtain ⟨⟨F, hFb, hO⟩, hd⟩ := hJ.at_ 4 (by decide) hL (fun j hj e => by have hj0 : j = 3 := (by omega); subst hj0; exact hW 8 (by kernel_rfl))
      have cc : Calls Tryd.prog 33 #[.pointer (some ⟨g, 0, none⟩), .int .i64 h.c] W (OutP W g ((bndL K h).getD 4 []) false F) := (by
        have hz : (h.c.toNat : Int) = h.c := by have := OK.out.2.2.1; omega
        have h0 := num_any W g ((bndL K h).getD 3 []) false F h.c.toNat hO (by have := OK.out.2.2.1; omega) (by have := LB.out 3; omega)
        rw [hz] at h0
        exact h0)
      refine step_callx 33 #[.pointer (some ⟨g, 0, none⟩), .int .i64 h.c] (wanted_none rfl) (w' := W) ?_ (cc.mono fun e W2 hh => ?_)
      · go_simp
      · obtain ⟨rfl, F2, hO2, hGr, hU⟩ := hh
        have hF2 : ∀ k ∈ F2, w1.heap.size ≤ k := fun k hk => (hGr k hk).elim (hFb k) (fun h => Nat.le_trans hC.size h)
        exact ⟨_, rfl, hK _ _ (hC.trans (hU.below hFb hC.size)) trivial rfl (ChJ.next 4 (by decide) (by decide) hd ⟨F2, hF2, hO2⟩)⟩
    · clear hsz
      have e1 := slot_of (a := a) (s := 3) (v := .pointer (some ⟨gH, 0, none⟩)) (hf 3 (by kernel_rfl))
      refine step_run (wanted_none rfl) (v := .pointer (some ⟨gH, 2, none⟩)) (w' := W) ?_ (hK _ _ hC trivial rfl (hJ.same 13 (by decide)))
      go_simp
    · clear hsz
      have e1 := slot_of (a := a) (s := 18) (v := .pointer (some ⟨gH, 2, none⟩)) (hv 13 (by kernel_rfl))
      refine step_run (wanted_none rfl) (v := .pointer (some ⟨gH, 3, none⟩)) (w' := W) ?_ (hK _ _ hC trivial rfl (hJ.same 14 (by decide)))
      go_simp
    · clear hsz
      have e1 := slot_of (a := a) (s := 19) (v := .pointer (some ⟨gH, 3, none⟩)) (hv 14 (by kernel_rfl))
      obtain ⟨k0, k1, k2, k3, k4⟩ := LK.out W hC
      refine step_run (wanted_none rfl) (v := .int .i64 h.d) (w' := W) ?_ (hK _ _ hC trivial rfl (hJ.same 15 (by decide)))
      go_simp
    · clear hsz
      have e1 := slot_of (a := a) (s := 17) (v := .pointer (some ⟨g, 0, none⟩)) (hv 12 (by kernel_rfl))
      have e2 := slot_of (a := a) (s := 20) (v := .int .i64 h.d) (hv 15 (by kernel_rfl))
      obtain ⟨⟨F, hFb, hO⟩, hd⟩ := hJ.at_ 5 (by decide) hL (fun j hj e => by have hj0 : j = 4 := (by omega); subst hj0; exact hW 12 (by kernel_rfl))
      have cc : Calls Tryd.prog 33 #[.pointer (some ⟨g, 0, none⟩), .int .i64 h.d] W (OutP W g ((bndL K h).getD 5 []) false F) := (by
        have hz : (h.d.toNat : Int) = h.d := by have := OK.out.2.2.2.1; omega
        have h0 := num_any W g ((bndL K h).getD 4 []) false F h.d.toNat hO (by have := OK.out.2.2.2.1; omega) (by have := LB.out 4; omega)
        rw [hz] at h0
        exact h0)
      refine step_callx 33 #[.pointer (some ⟨g, 0, none⟩), .int .i64 h.d] (wanted_none rfl) (w' := W) ?_ (cc.mono fun e W2 hh => ?_)
      · go_simp
      · obtain ⟨rfl, F2, hO2, hGr, hU⟩ := hh
        have hF2 : ∀ k ∈ F2, w1.heap.size ≤ k := fun k hk => (hGr k hk).elim (hFb k) (fun h => Nat.le_trans hC.size h)
        exact ⟨_, rfl, hK _ _ (hC.trans (hU.below hFb hC.size)) trivial rfl (ChJ.next 5 (by decide) (by decide) hd ⟨F2, hF2, hO2⟩)⟩
    · clear hsz
      have e1 := slot_of (a := a) (s := 3) (v := .pointer (some ⟨gH, 0, none⟩)) (hf 3 (by kernel_rfl))
      refine step_run (wanted_none rfl) (v := .pointer (some ⟨gH, 4, none⟩)) (w' := W) ?_ (hK _ _ hC trivial rfl (hJ.same 17 (by decide)))
      go_simp
    · clear hsz
      have e1 := slot_of (a := a) (s := 22) (v := .pointer (some ⟨gH, 4, none⟩)) (hv 17 (by kernel_rfl))
      obtain ⟨k0, k1, k2, k3, k4⟩ := LK.out W hC
      refine step_run (wanted_none rfl) (v := .slice h.pa h.pl.length h.pc) (w' := W) ?_ (hK _ _ hC trivial rfl (hJ.same 18 (by decide)))
      go_simp
    · clear hsz
      have e1 := slot_of (a := a) (s := 21) (v := .pointer (some ⟨g, 0, none⟩)) (hv 16 (by kernel_rfl))
      have e2 := slot_of (a := a) (s := 23) (v := .slice h.pa h.pl.length h.pc) (hv 18 (by kernel_rfl))
      obtain ⟨⟨F, hFb, hO⟩, hd⟩ := hJ.at_ 6 (by decide) hL (fun j hj e => by have hj0 : j = 5 := (by omega); subst hj0; exact hW 16 (by kernel_rfl))
      have cc : Calls Tryd.prog 20 #[.pointer (some ⟨g, 0, none⟩), .slice h.pa h.pl.length h.pc] W (OutP W g ((bndL K h).getD 6 []) false F) := bytes_any W g ((bndL K h).getD 5 []) false F h.pa h.pl.length h.pc h.pl hO (fun hn => by obtain ⟨b, off, e, hb, hc⟩ := RP.out hn; exact ⟨b, off, e, fun hm => by have := hFb b hm; omega, Nat.lt_of_lt_of_le hb hC.size, fun j hj => (hC.cell (p := ⟨b, _, none⟩) hb).trans (hc j hj)⟩) rfl (by have := LB.out 5; have := OK.out.2.2.2.2; omega)
      refine step_callx 20 #[.pointer (some ⟨g, 0, none⟩), .slice h.pa h.pl.length h.pc] (wanted_none rfl) (w' := W) ?_ (cc.mono fun e W2 hh => ?_)
      · go_simp
      · obtain ⟨rfl, F2, hO2, hGr, hU⟩ := hh
        have hF2 : ∀ k ∈ F2, w1.heap.size ≤ k := fun k hk => (hGr k hk).elim (hFb k) (fun h => Nat.le_trans hC.size h)
        exact ⟨_, rfl, hK _ _ (hC.trans (hU.below hFb hC.size)) trivial rfl (ChJ.next 6 (by decide) (by decide) hd ⟨F2, hF2, hO2⟩)⟩
    · clear hsz
      have e1 := slot_of (a := a) (s := 24) (v := .pointer (some ⟨g, 0, none⟩)) (hv 19 (by kernel_rfl))
      refine step_run (wanted_none rfl) (v := .pointer (some ⟨g, 0, none⟩)) (w' := W) ?_ (hK _ _ hC trivial rfl (hJ.same 20 (by decide)))
      go_simp
  · intro f w7 hC7 hv7 D7 hD7 hJ7
    obtain ⟨a7, hJ, hs⟩ := hJ7
    obtain ⟨F, hFb, hO⟩ := hJ.last 6 (by decide) rfl (hD7 19 (by decide))
    have e4 : f 4 = .pointer (some ⟨g, 0, none⟩) := hv7 20 (by decide)
    have HO := hidxb_ hO
    have HF := hidxb_ hFb
    have HC := hidxb_ hC7
    simp only [framed, List.foldl_cons, List.foldl_nil, List.setIfInBounds_toArray, List.set_cons_succ, List.set_cons_zero]
    rw [e4]
    clear hv7 hD7 hJ hs hO hFb hC7 e4
    refine hK9 _ _ ?_
    go_wp2
    go_ret
    exact ⟨congrArg (fun k => Ending.returned (.pointer (some ⟨k, 0, none⟩))) HGW.out, F, by rw [← HGW.out]; exact HO.out, fun k hk => Nat.le_trans X1.out.size (HF.out k hk), X1.out.trans (HC.out.mono X1.out.size)⟩
theorem bound_any (w : World) (K : List UInt8) (hK : K.length = 32) (h : HeadV) (hok : h.Ok) (hp : Rd w w.heap.size h.pa h.pl) :
    Calls Tryd.prog 15 #[.agg (rowOf K), .agg h.row] w fun r w' => ∃ g F, r = .returned (.pointer (some ⟨g, 0, none⟩)) ∧ OutF w' g (boundB K h) false F ∧ (∀ k ∈ F, w.heap.size ≤ k) ∧ Below w.heap.size w w' :=
  (bound_at w K hK h hok hp).mono fun r w' ⟨e, F, h1, h2, h3⟩ => ⟨_, F, e, h1, h2, h3⟩
end Go.Proofs.YtmomnfhoeabdnaaDoor

namespace Go.Proofs.YtmomnfhoeabdnaaDoor
set_option maxRecDepth 100000
open Go.ChangeShapes Go.WideShapes Go.ChangeAt Go.RowKit
set_option linter.unusedVariables false
set_option linter.unusedSimpArgs false

theorem hidxc_ {p : Prop} (h : p) : Hid p := h
/-- What is padded of a value, or of its having been deleted. -/
def packB (del : Bool) (v : List UInt8) : List UInt8 := if del = true then [0] else 1 :: v
theorem packB_len (del : Bool) (v : List UInt8) : (packB del v).length ≤ v.length + 1 := by
  unfold packB
  split <;> simp
set_option maxRecDepth 100000 in
set_option maxHeartbeats 4000000 in
theorem packed_any (w : World) (A : Option Addr) (n c : Nat) (v : List UInt8) (del : Bool) (hn : v.length = n) (hn4 : n ≤ 3999) (hr : Rd w w.heap.size A v) (ht : PTab w) (hg1 : 1 < w.heap.size) :
    Calls Tryd.prog 13 #[.slice A n c, .bool del] w (PadP w (clsS (packB del v).length) (padB (packB del v))) := by
  have HT := hidxc_ ht
  cases del with
  | true =>
    have B1 : Below w.heap.size w (w.alloc (.cells #[.int .u8 0] 5)) := (Below.refl _ _).alloc (Nat.le_refl _) _
    have X1 := hidxc_ B1
    have K1 : Blk8 (w.alloc (.cells #[.int .u8 0] 5)) w.heap.size [0] := Blk8.new w [0]
    have cp := pad_any (w.alloc (.cells #[.int .u8 0] 5)) (some ⟨w.heap.size, 0, none⟩) 1 1 [0] rfl (by omega) (K1.rd (by simp)) (HT.out.below B1 hg1)
    clear hr ht B1 K1
    go_enter Tryd.func13, Tryd.ntmps13
    go_wp2_with (go_at_call 26; ((with_reducible refine cp.mono ?_); clear cp; rintro e w2 ⟨A2, c2, rfl, hO, hB⟩; have O2 := hidxc_ hO; have X2 := hidxc_ hB; clear hO hB))
    go_ret2
    exact ⟨A2, c2, rfl, O2.out.lower X1.out.size, X1.out.trans (X2.out.mono X1.out.size)⟩
  | false =>
    have hz : (rowOf [1] : Array Value) = #[.int .u8 1] := by kernel_rfl
    have hw1 : Below w.heap.size w ((w.alloc (.cells #[.int .u8 1] 5)).alloc (.cells #[.slice (some ⟨w.heap.size, 0, none⟩) 1 1, .slice A n c] 27)) := ((Below.refl _ _).alloc (Nat.le_refl _) _).alloc (by simp) _
    have c3 := concat_any (w.heap.size + 1) 2 2 (n + 1) [(some ⟨w.heap.size, 0, none⟩, 1, [1]), (A, c, v)] ((w.alloc (.cells #[.int .u8 1] 5)).alloc (.cells #[.slice (some ⟨w.heap.size, 0, none⟩) 1 1, .slice A n c] 27)) rfl (by simp [flat, hn])
      ⟨by simp, fun i hi => by
        have h2 : i < 2 := hi
        have hcell := (Bk.new (w.alloc (.cells #[.int .u8 1] 5)) 27 #[.slice (some ⟨w.heap.size, 0, none⟩) 1 1, .slice A n c]).cell i
        have hsz : (w.alloc (.cells #[.int .u8 1] 5)).heap.size = w.heap.size + 1 := by simp
        rw [hsz] at hcell
        rcases i with _ | _ | i
        · exact ⟨hcell.trans (by simp), (((Blk8.new w [1]).alloc _).rd (by simp; omega))⟩
        · exact ⟨hcell.trans (by simp [hn]), (hr.below hw1).more hw1.size⟩
        · omega⟩ (by omega) (by omega)
    have hfl : flat [(some ⟨w.heap.size, 0, none⟩, 1, [1]), (A, c, v)] = 1 :: v := by simp [flat]
    rw [hfl] at c3
    have X1 := hidxc_ hw1
    have HN := hidxc_ (show (1 :: v).length = n + 1 by simp [hn])
    rw [show packB false v = 1 :: v from rfl, HN.out]
    have cp := fun W A c hr ht => pad_any W A (n + 1) c (1 :: v) HN.out (by omega) hr ht
    have e1 : ((n + 1 : Nat) : Int) = (n : Int) + 1 := by omega
    clear hr ht hw1 hfl hz hn
    go_enter Tryd.func13, Tryd.ntmps13
    go_wp2_with (first
      | (go_at_call 27; ((with_reducible refine c3.mono ?_); clear c3; rintro e w2 ⟨A2, q2, rfl, ho, hb⟩; have O2 := hidxc_ ho; have X2 := hidxc_ (X1.out.trans (hb.mono X1.out.size)); clear ho hb))
      | (go_at_call 26; have c9 := cp w2 A2 q2 O2.out.rd.1 (HT.out.below X2.out hg1); ((with_reducible refine c9.mono ?_); clear c9; rintro e w3 ⟨A3, c3, rfl, hO, hB⟩; have O3 := hidxc_ hO; have X3 := hidxc_ hB; clear hO hB)))
    go_ret2
    exact ⟨A3, c3, rfl, O3.out.lower X2.out.size, X2.out.trans (X3.out.mono X2.out.size)⟩

/-- What valueOf makes of what was cut. -/
def valR : List UInt8 → List UInt8 × Bool × Int
  | [] => ([], false, 2)
  | b :: t => if b = 1 then (t, false, 0) else if b = 0 ∧ t = [] then ([], true, 0) else ([], false, 2)
def ValP (w : World) (r : List UInt8 × Bool × Int) (e : Ending) (w' : World) : Prop := ∃ A m c, e = .returned (.tuple #[.slice A m c, .bool r.2.1, .int .i64 r.2.2]) ∧ m = r.1.length ∧ Rd w' w'.heap.size A r.1 ∧ (∀ a, A = some a → w.heap.size ≤ a.block) ∧ Below w.heap.size w w'
end Go.Proofs.YtmomnfhoeabdnaaDoor

namespace Go.Proofs.YtmomnfhoeabdnaaDoor
set_option maxRecDepth 100000
open Go.ChangeShapes Go.WideShapes Go.ChangeAt Go.RowKit
set_option linter.unusedVariables false
set_option linter.unusedSimpArgs false

section
variable {id : Bool} {v sp nm kn : Nat} {K : List UInt8} {N : List (List UInt8)} {L : List SealV} {w : World} {F : List Nat}
/-- What a Seal leaves, its room told, too: the bytes, apart from the vault's own. -/
def SealC (id : Bool) (v sp nm kn : Nat) (K : List UInt8) (N : List (List UInt8)) (L : List SealV) (w : World) (F : List Nat) (e c n : Int) (x b : List UInt8) (r : Ending) (w' : World) : Prop :=
  ∃ A d F', r = .returned (.tuple #[.slice A (sB id K L e c n x b).length d, .int .i64 (sE L e c n)]) ∧ Own8 w' w.heap.size (.slice A (sB id K L e c n x b).length d) (sB id K L e c n x b) ∧ VS id v sp nm kn K N (sL id K L e c n x b) w' F' ∧ Grew w F F' ∧ Untouched F w w' ∧ ∀ a, A = some a → w.heap.size ≤ a.block ∧ a.block < w'.heap.size ∧ a.block ∉ F'
theorem vseal_c (h : VS id v sp nm kn K N L w F) (Aw B : Option Addr) (na ca nb cb : Nat) (x b : List UInt8) (hx : x.length = na) (hb : b.length = nb) (hrx : Rd w w.heap.size Aw x) (hrb : Rd w w.heap.size B b) (hna : na ≤ 100000) (hnb : nb ≤ 100000) (hcb : nb ≤ cb) (hcm : cb ≤ 9223372036854775807)
    (e c n : Int) (hLl : L.length ≤ 100000) (ht : Tab w) (hg1 : 0 < w.heap.size) :
    Calls Tryd.prog 17 #[.pointer (some ⟨v, 0, none⟩), .int .i64 e, .int .i64 c, .int .i64 n, .slice Aw na ca, .slice B nb cb] w (SealC id v sp nm kn K N L w F e c n x b) := by
  obtain ⟨nmo, kno, hbk, hK, hs⟩ := h.blk
  have no : ∀ (z : Int) (r : Ending) (w' : World), sE L e c n = z → sB id K L e c n x b = [] → sL id K L e c n x b = L → r = .returned (.tuple #[.slice none 0 0, .int .i64 z]) → Below w.heap.size w w' → SealC id v sp nm kn K N L w F e c n x b r w' := by
    intro z r w' h1 h2 h3 h4 h5
    refine ⟨none, 0, F, ?_, ?_, ?_, Grew.refl _ _, .of_below h5, fun a e => by cases e⟩
    · rw [h4, h1, h2]; rfl
    · rw [h2]; exact Own8.nil_ w' w.heap.size
    · rw [h3]; exact (VS.foot id v sp nm kn K N L).keep h (Untouched.of_below (F := []) h5) (fun _ _ => by simp)
  by_cases hok : slOk e c n
  · have hok' := hok
    obtain ⟨⟨he1, he2⟩, hc1, hc2, hn1, hn2⟩ := hok'
    obtain ⟨e, rfl⟩ : ∃ k : Nat, e = (k : Int) := ⟨e.toNat, by omega⟩
    obtain ⟨c, rfl⟩ : ∃ k : Nat, c = (k : Int) := ⟨c.toNat, by omega⟩
    obtain ⟨n, rfl⟩ : ∃ k : Nat, n = (k : Int) := ⟨n.toNat, by omega⟩
    have ck := keysOf_yes hbk hK e c n (by omega) (by omega) (by omega) (by omega) (by omega) (by omega) ht hg1
    by_cases hin : (c, n) ∈ L.map cn
    · refine (vseal_spent hbk hK hs Aw B na ca nb cb e c n (by omega) (by omega) hin ck).mono ?_
      rintro r w' ⟨hr, hB⟩
      refine no 13 r w' ?_ ?_ ?_ hr hB
      · unfold sE; rw [if_pos hok, if_pos (show ((c : Int).toNat, (n : Int).toNat) ∈ L.map cn from hin)]
      · unfold sB; rw [if_neg (fun hh => hh.2 hin)]
      · unfold sL; rw [if_neg (fun hh => hh.2 hin)]
    · have hyes : slOk (e : Int) (c : Int) (n : Int) ∧ ((c : Int).toNat, (n : Int).toNat) ∉ L.map cn := ⟨hok, hin⟩
      have e1 : sE L (e : Int) (c : Int) (n : Int) = 0 := by unfold sE; rw [if_pos hok, if_neg (show ((c : Int).toNat, (n : Int).toNat) ∉ L.map cn from hin)]
      have e2 : sB id K L (e : Int) (c : Int) (n : Int) x b = sO id K L e c n x b := by unfold sB; rw [if_pos hyes]; rfl
      have e3 : sL id K L (e : Int) (c : Int) (n : Int) x b = L ++ [⟨e, c, n, x, sO id K L e c n x b, b⟩] := by unfold sL; rw [if_pos hyes]; rfl
      have e4 : (L ++ [(⟨e, c, n, x, sO id K L e c n x b, b⟩ : SealV)]).map cn = L.map cn ++ [(c, n)] := by simp [cn]
      have e5 := sO_len id K L e c n x b
      unfold SealC
      rw [e1, e2, e3, e5, hb]
      cases id
      · refine (vseal_real h Aw B na ca nb cb x b hx hb hrx hrb hna hnb hcb hcm e c n (by omega) (by omega) (by omega) hin (by simpa using hLl) ck).mono ?_
        rintro r w' ⟨A, d, hr, ho, hv, hu⟩
        refine ⟨A, d, F, hr, ho, ?_, Grew.refl _ _, hu, fun a ea => ⟨(ownX ho a ea).1, (ownX ho a ea).2, fun hm => ?_⟩⟩
        · show VltR w' v sp K _ F
          rw [e4]
          exact hv
        · have h1 := (ownX ho a ea).1
          have h2 := VltR.hF h a.block hm
          omega
      · refine (vseal_ideal h Aw B na ca nb cb x b hx hb hrx hrb hna hnb e c n (by omega) (by omega) (by omega) hin (by simpa using hLl) hLl ck).mono ?_
        rintro r w' ⟨A, d, F', hr, ho, hni, hl⟩
        have e6 : drawB K 1 ((L.map cn).length + 1) (nb + 8) = sO true K L e c n x b := by unfold sO; rw [if_pos rfl, List.length_map, hb]
        rw [e6] at ho hl
        refine ⟨A, d, F', hr, ho, ?_, hl.2.1, hl.2.2, fun a ea => ⟨(ownX ho a ea).1, (ownX ho a ea).2, hni a ea⟩⟩
        show VltI w' v sp nm kn K N _ _ F'
        rw [e4]
        exact hl.1
  · refine (vseal_no Aw B na ca nb cb e c n (keys_no hbk hK e c n ht hg1 hok)).mono ?_
    rintro r w' ⟨hr, hB⟩
    refine no 1 r w' ?_ ?_ ?_ hr hB
    · unfold sE; rw [if_neg hok]
    · unfold sB; rw [if_neg (fun hh => hok hh.1)]
    · unfold sL; rw [if_neg (fun hh => hok hh.1)]
end
end Go.Proofs.YtmomnfhoeabdnaaDoor

namespace Go.Proofs.YtmomnfhoeabdnaaDoor
set_option maxRecDepth 100000
open Go.ChangeShapes Go.WideShapes Go.ChangeAt Go.RowKit
set_option linter.unusedVariables false
set_option linter.unusedSimpArgs false

theorem hidxd_ {p : Prop} (h : p) : Hid p := h
/-- An envelope's cells. -/
def eRow (K : List UInt8) (h : HeadV) (sa : Option Addr) (sn sc : Nat) : Array Value := ((K.map fun b => Value.int .u8 (b.toNat : Int)) ++ ([.int .i64 h.e, .int .i64 h.n, .int .i64 h.c, .int .i64 h.d, .slice h.pa h.pl.length h.pc, .slice sa sn sc] : List Value)).toArray
theorem eRow_size (K : List UInt8) (hK : K.length = 32) (h : HeadV) (sa : Option Addr) (sn sc : Nat) : (eRow K h sa sn sc).size = 38 := by simp [eRow, hK]
theorem eRow_one (K : List UInt8) (h : HeadV) (sa : Option Addr) (sn sc : Nat) : (eRow K h sa sn sc).all (·.oneCell') = true := by
  simp [eRow, Value.oneCell', List.all_append]
def hd0 : HeadV := ⟨0, 0, 0, 0, none, [], 0⟩
def eRow0 : Array Value := eRow (zbytes 32) hd0 none 0 0
theorem infoE : (Tryd.prog.info? 38).map (·.size) = some 38 := by kernel_rfl
theorem iE (K : List UInt8) (hK : K.length = 32) (h : HeadV) (sa : Option Addr) (sn sc : Nat) : (Tryd.prog.info? 38).map (·.size) = some (eRow K h sa sn sc).size := by rw [eRow_size K hK]; exact infoE
theorem built_e0 : Tryd.prog.built 38 [] = some eRow0 := by kernel_rfl
set_option maxRecDepth 100000 in
theorem built_e32 (a0 a1 a2 a3 a4 a5 a6 a7 a8 a9 a10 a11 a12 a13 a14 a15 a16 a17 a18 a19 a20 a21 a22 a23 a24 a25 a26 a27 a28 a29 a30 a31 : UInt8) (h : HeadV) (sa : Option Addr) (sn sc : Nat) :
    Tryd.prog.built 38 [(0, .agg (rowOf [a0, a1, a2, a3, a4, a5, a6, a7, a8, a9, a10, a11, a12, a13, a14, a15, a16, a17, a18, a19, a20, a21, a22, a23, a24, a25, a26, a27, a28, a29, a30, a31])), (1, .agg h.row), (2, .slice sa sn sc)] = some (eRow [a0, a1, a2, a3, a4, a5, a6, a7, a8, a9, a10, a11, a12, a13, a14, a15, a16, a17, a18, a19, a20, a21, a22, a23, a24, a25, a26, a27, a28, a29, a30, a31] h sa sn sc) := by kernel_rfl
theorem built_e (K : List UInt8) (hK : K.length = 32) (h : HeadV) (sa : Option Addr) (sn sc : Nat) : Tryd.prog.built 38 [(0, .agg (rowOf K)), (1, .agg h.row), (2, .slice sa sn sc)] = some (eRow K h sa sn sc) := by
  match K, hK with
  | [a0, a1, a2, a3, a4, a5, a6, a7, a8, a9, a10, a11, a12, a13, a14, a15, a16, a17, a18, a19, a20, a21, a22, a23, a24, a25, a26, a27, a28, a29, a30, a31], _ => exact built_e32 a0 a1 a2 a3 a4 a5 a6 a7 a8 a9 a10 a11 a12 a13 a14 a15 a16 a17 a18 a19 a20 a21 a22 a23 a24 a25 a26 a27 a28 a29 a30 a31 h sa sn sc
theorem zeroE (W : World) : (zeroValue 38).run Tryd.prog W = .ok (.agg eRow0) W := by kernel_rfl

/-! What Seal comes to. -/
theorem iBl (K : List UInt8) (hK : K.length = 32) : (Tryd.prog.info? 36).map (·.size) = some (rowOf K).size := by
  rw [rowOf_size, hK]
  kernel_rfl
theorem results_cell_slotE {P : Program} {fn : Func} {p q : Tmp} {ty : TypeId} (h : fn.results = #[.cell p ty, .tmp q]) (tmps : Array Value) (w : World) (g : Nat) {v v' : Value}
    (hp : tmps.getD p undef = .pointer (some ⟨g, 0, none⟩)) (hq : tmps.getD q undef = v')
    (h1 : (loadVar ty ⟨g, 0, none⟩).run P w = .ok v w) :
    (results fn tmps).run P w = .ok (.tuple #[v, v']) w := by
  have hp' : tmps[p]?.getD undef = .pointer (some ⟨g, 0, none⟩) := by simpa using hp
  have hq' : tmps[q]?.getD undef = v' := by simpa using hq
  simp [results, h, hp', hq', asAddr, h1]
theorem HeadV.put (h : HeadV) (A : Option Addr) (c : Nat) : h.row.setIfInBounds 4 (.slice A h.pl.length c) = ({ h with pa := A, pc := c } : HeadV).row := rfl

set_option maxRecDepth 100000 in
set_option maxHeartbeats 4000000 in
theorem seal_nil (w : World) (V1 : Value) (h : HeadV) (V : Value) (del : Bool) :
    Calls Tryd.prog 7 #[.pointer none, V1, .agg h.row, V, .bool del] w fun r w' => r = .returned (.tuple #[.agg eRow0, .int .i64 1]) ∧ Below w.heap.size w w' := by
  obtain ⟨g, hg⟩ : ∃ g, w.heap.size = g := ⟨_, rfl⟩
  obtain ⟨w1, hw1⟩ : ∃ W, w.alloc (.cells h.row 35) = W := ⟨_, rfl⟩
  obtain ⟨w2, hw2⟩ : ∃ W, w1.alloc (.cells eRow0 38) = W := ⟨_, rfl⟩
  have hz := zeroE w1
  have s1 : w1.heap.size = g + 1 := by rw [← hw1, ← hg]; simp
  have S2 : w2.heap.size = g + 2 := by rw [← hw2]; simp [s1]
  have b1 : Below w.heap.size w w1 := by rw [← hw1]; exact (Below.refl _ _).alloc (Nat.le_refl _) _
  have b2 : Below w1.heap.size w1 w2 := by rw [← hw2]; exact (Below.refl _ _).alloc (Nat.le_refl _) _
  have X2 := hidxd_ (b1.trans (b2.mono b1.size))
  have H2 := hidxd_ (show Bk w2 g 35 h.row by have k := Bk.new w 35 h.row; rw [hw1, hg] at k; exact k.below b2 k.lt)
  have E2 := hidxd_ (show Bk w2 (g + 1) 38 eRow0 by have k := Bk.new w1 38 eRow0; rw [hw2, s1] at k; exact k)
  have HG := hidxd_ hg
  clear b1 b2
  go_enter Tryd.func7, Tryd.ntmps7
  go_wp2_with (first
    | (refine wpList_built rfl 38 #[] rfl eRow0 built_e0 ?_)
    | (refine wpList_put_row rfl 38 (.tmp 10) (.tmp 29) rfl (g + 1) eRow0 rfl rfl 38 eRow0 E2.out (iE _ rfl _ _ _ _) rfl (eRow_one _ _ _ _ _) ?_; intro w9 k9 g9 s9; have K9 := hidxd_ k9; have X9 := hidxd_ (X2.out.grown g9 X2.out.size (fun k hk => by injection hk with hk; have := HG.out; omega)); clear k9 g9 s9))
  exact bodyPost_ret (results_cell_slotE Tryd.results7 _ _ (g + 1) rfl rfl (run_loadVar_row _ _ _ _ _ (0, 0) _ K9.out Tryd.underlying38 rfl (iE _ rfl _ _ _ _))) rfl ⟨rfl, X9.out⟩

set_option maxRecDepth 100000 in
set_option maxHeartbeats 4000000 in
theorem seal_no1 (w : World) (v : Nat) (A : Option Addr) (n c : Nat) (h : HeadV) (V : Value) (del : Bool) (hbad : ¬ (1 ≤ n ∧ n ≤ 64)) :
    Calls Tryd.prog 7 #[.pointer (some ⟨v, 0, none⟩), .slice A n c, .agg h.row, V, .bool del] w fun r w' => r = .returned (.tuple #[.agg eRow0, .int .i64 1]) ∧ Below w.heap.size w w' := by
  obtain ⟨g, hg⟩ : ∃ g, w.heap.size = g := ⟨_, rfl⟩
  obtain ⟨w1, hw1⟩ : ∃ W, w.alloc (.cells h.row 35) = W := ⟨_, rfl⟩
  obtain ⟨w2, hw2⟩ : ∃ W, w1.alloc (.cells eRow0 38) = W := ⟨_, rfl⟩
  have hz := zeroE w1
  have s1 : w1.heap.size = g + 1 := by rw [← hw1, ← hg]; simp
  have S2 : w2.heap.size = g + 2 := by rw [← hw2]; simp [s1]
  have b1 : Below w.heap.size w w1 := by rw [← hw1]; exact (Below.refl _ _).alloc (Nat.le_refl _) _
  have b2 : Below w1.heap.size w1 w2 := by rw [← hw2]; exact (Below.refl _ _).alloc (Nat.le_refl _) _
  have X2 := hidxd_ (b1.trans (b2.mono b1.size))
  have H2 := hidxd_ (show Bk w2 g 35 h.row by have k := Bk.new w 35 h.row; rw [hw1, hg] at k; exact k.below b2 k.lt)
  have E2 := hidxd_ (show Bk w2 (g + 1) 38 eRow0 by have k := Bk.new w1 38 eRow0; rw [hw2, s1] at k; exact k)
  have HG := hidxd_ hg
  have ci := isName_any w2 A n c
  rw [show (decide (1 ≤ n) && decide (n ≤ 64)) = false by rw [← Bool.decide_and]; exact decide_eq_false hbad] at ci
  clear b1 b2
  go_enter Tryd.func7, Tryd.ntmps7
  go_wp2_with (first
    | (go_at_call 11; ((with_reducible refine ci.mono ?_); clear ci; rintro e w' ⟨rfl, rfl⟩))
    | (refine wpList_built rfl 38 #[] rfl eRow0 built_e0 ?_)
    | (refine wpList_put_row rfl 38 (.tmp 10) (.tmp 29) rfl (g + 1) eRow0 rfl rfl 38 eRow0 E2.out (iE _ rfl _ _ _ _) rfl (eRow_one _ _ _ _ _) ?_; intro w9 k9 g9 s9; have K9 := hidxd_ k9; have X9 := hidxd_ (X2.out.grown g9 X2.out.size (fun k hk => by injection hk with hk; have := HG.out; omega)); clear k9 g9 s9))
  exact bodyPost_ret (results_cell_slotE Tryd.results7 _ _ (g + 1) rfl rfl (run_loadVar_row _ _ _ _ _ (0, 0) _ K9.out Tryd.underlying38 rfl (iE _ rfl _ _ _ _))) rfl ⟨rfl, X9.out⟩

set_option maxRecDepth 100000 in
set_option maxHeartbeats 4000000 in
theorem seal_no2 (w : World) (v : Nat) (A : Option Addr) (n c : Nat) (h : HeadV) (V : Value) (del : Bool) (h1 : 1 ≤ n) (h2 : n ≤ 64) (hbad : ¬ h.Ok) :
    Calls Tryd.prog 7 #[.pointer (some ⟨v, 0, none⟩), .slice A n c, .agg h.row, V, .bool del] w fun r w' => r = .returned (.tuple #[.agg eRow0, .int .i64 1]) ∧ Below w.heap.size w w' := by
  obtain ⟨g, hg⟩ : ∃ g, w.heap.size = g := ⟨_, rfl⟩
  obtain ⟨w1, hw1⟩ : ∃ W, w.alloc (.cells h.row 35) = W := ⟨_, rfl⟩
  obtain ⟨w2, hw2⟩ : ∃ W, w1.alloc (.cells eRow0 38) = W := ⟨_, rfl⟩
  have hz := zeroE w1
  have s1 : w1.heap.size = g + 1 := by rw [← hw1, ← hg]; simp
  have S2 : w2.heap.size = g + 2 := by rw [← hw2]; simp [s1]
  have b1 : Below w.heap.size w w1 := by rw [← hw1]; exact (Below.refl _ _).alloc (Nat.le_refl _) _
  have b2 : Below w1.heap.size w1 w2 := by rw [← hw2]; exact (Below.refl _ _).alloc (Nat.le_refl _) _
  have X2 := hidxd_ (b1.trans (b2.mono b1.size))
  have H2 := hidxd_ (show Bk w2 g 35 h.row by have k := Bk.new w 35 h.row; rw [hw1, hg] at k; exact k.below b2 k.lt)
  have E2 := hidxd_ (show Bk w2 (g + 1) 38 eRow0 by have k := Bk.new w1 38 eRow0; rw [hw2, s1] at k; exact k)
  have HG := hidxd_ hg
  have ci := isName_any w2 A n c
  rw [show (decide (1 ≤ n) && decide (n ≤ 64)) = true by rw [← Bool.decide_and]; exact decide_eq_true ⟨h1, h2⟩] at ci
  have ci2 := isHead_any w2 h
  rw [decide_eq_false hbad] at ci2
  clear b1 b2
  go_enter Tryd.func7, Tryd.ntmps7
  go_wp2_with (first
    | (go_at_call 11; ((with_reducible refine ci.mono ?_); clear ci; rintro e w' ⟨rfl, rfl⟩))
    | (refine wpList_load_rowW (by go_simp) 35 (.tmp 7) rfl g rfl 35 h.row H2.out _ Tryd.underlying35 rfl (iHead h) ?_)
    | (go_at_call 12; ((with_reducible refine ci2.mono ?_); clear ci2; rintro e w3 ⟨rfl, hB⟩; have X3 := hidxd_ (X2.out.trans (hB.mono X2.out.size)); have E3 := hidxd_ (E2.out.below hB E2.out.lt); clear hB))
    | (refine wpList_built rfl 38 #[] rfl eRow0 built_e0 ?_)
    | (refine wpList_put_row rfl 38 (.tmp 10) (.tmp 29) rfl (g + 1) eRow0 rfl rfl 38 eRow0 E3.out (iE _ rfl _ _ _ _) rfl (eRow_one _ _ _ _ _) ?_; intro w9 k9 g9 s9; have K9 := hidxd_ k9; have X9 := hidxd_ (X3.out.grown g9 X3.out.size (fun k hk => by injection hk with hk; have := HG.out; omega)); clear k9 g9 s9))
  exact bodyPost_ret (results_cell_slotE Tryd.results7 _ _ (g + 1) rfl rfl (run_loadVar_row _ _ _ _ _ (0, 0) _ K9.out Tryd.underlying38 rfl (iE _ rfl _ _ _ _))) rfl ⟨rfl, X9.out⟩

/-- What is sealed: the padded value; what it is bound to. -/
def esP (del : Bool) (u : List UInt8) : List UInt8 := padB (packB del u)
def esX (id : Bool) (K : List UInt8) (N : List (List UInt8)) (name : List UInt8) (h : HeadV) : List UInt8 := boundB (bV id K N name) h
/-- What a Seal that is done leaves. -/
def EsP (id : Bool) (v sp nm kn : Nat) (K : List UInt8) (N : List (List UInt8)) (L : List SealV) (w : World) (F : List Nat) (name : List UInt8) (h : HeadV) (x b : List UInt8) (r : Ending) (w' : World) : Prop :=
  ∃ pa pc sa sc F', r = .returned (.tuple #[.agg (eRow (bV id K N name) { h with pa := pa, pc := pc } sa (sB id K L h.e h.c h.n x b).length sc), .int .i64 0]) ∧ ((sB id K L h.e h.c h.n x b).length ≤ sc ∧ sc ≤ 9223372036854775807) ∧ RdF w' F' pa h.pl ∧ RdF w' F' sa (sB id K L h.e h.c h.n x b) ∧
    VS id v sp nm kn K (bN id N name) (sL id K L h.e h.c h.n x b) w' F' ∧ Grew w F F' ∧ Untouched F w w'
/-- What a Seal that is done leaves: the past's copy and what is sealed are rows of the call's own, apart from each other and from the vault. -/
def EsW (id : Bool) (v sp nm kn : Nat) (K : List UInt8) (N : List (List UInt8)) (L : List SealV) (w : World) (F : List Nat) (name : List UInt8) (h : HeadV) (x b : List UInt8) (r : Ending) (w' : World) : Prop :=
  ∃ pa pc sa sc F', r = .returned (.tuple #[.agg (eRow (bV id K N name) { h with pa := pa, pc := pc } sa (sB id K L h.e h.c h.n x b).length sc), .int .i64 0]) ∧ Own8 w' w.heap.size (.slice pa h.pl.length pc) h.pl ∧ Own8 w' w.heap.size (.slice sa (sB id K L h.e h.c h.n x b).length sc) (sB id K L h.e h.c h.n x b) ∧
    (∀ a, pa = some a → a.block ∉ F') ∧ (∀ a, sa = some a → a.block ∉ F') ∧ (∀ a b, pa = some a → sa = some b → a.block ≠ b.block) ∧ VS id v sp nm kn K (bN id N name) (sL id K L h.e h.c h.n x b) w' F' ∧ Grew w F F' ∧ Untouched F w w'
theorem HeadV.slOk {h : HeadV} (hok : h.Ok) : slOk h.e h.c h.n := ⟨hok.1, hok.2.2.1.1, hok.2.2.1.2, hok.2.1.1, hok.2.1.2⟩
theorem rdf_of {w' : World} {F' : List Nat} {A : Option Addr} {l : List UInt8} (h : Rd w' w'.heap.size A l) (hA : ∀ a, A = some a → a.block ∉ F') : RdF w' F' A l := fun hn => by
  obtain ⟨b, off, e, hb, hc⟩ := h hn
  exact ⟨b, off, e, hA _ e, hb, hc⟩
theorem EsW.p {id : Bool} {v sp nm kn : Nat} {K : List UInt8} {N : List (List UInt8)} {L : List SealV} {w w' : World} {F : List Nat} {name : List UInt8} {h : HeadV} {x b : List UInt8} {r : Ending} : EsW id v sp nm kn K N L w F name h x b r w' → EsP id v sp nm kn K N L w F name h x b r w'
  | ⟨pa, pc, sa, sc, F', hr, hp, hs, np, ns, _, hV, hG, hU⟩ => ⟨pa, pc, sa, sc, F', hr, hs.cap, rdf_of hp.rd.1 np, rdf_of hs.rd.1 ns, hV, hG, hU⟩
theorem nf_ {F F5 : List Nat} {w4 : World} {b k : Nat} (hF : ∀ k ∈ F, k < b) (hG : Grew w4 F F5) (h1 : b ≤ k) (h2 : k < w4.heap.size) : k ∉ F5 := fun hm => (hG k hm).elim (fun h => by have := hF k h; omega) (fun h => by omega)
theorem tab_un {w w' : World} {F : List Nat} (h : Tab w) (hu : Untouched F w w') (hg : 0 < w.heap.size) (hF : 0 ∉ F) : Tab w' := fun t ht => by
  rw [← h t ht]
  exact World.cell?_of_block (hu.block _ hg hF)
theorem esP_len (del : Bool) (u : List UInt8) (hu : u.length ≤ 3999) : (esP del u).length = clsS (packB del u).length := padB_len _ (by have := packB_len del u; omega)

set_option maxRecDepth 100000 in
set_option maxHeartbeats 16000000 in
theorem seal_spent {id : Bool} {v sp nm kn : Nat} {K : List UInt8} {N : List (List UInt8)} {L : List SealV} {w : World} {F : List Nat} (hv : VS id v sp nm kn K N L w F) (A : Option Addr) (n c : Nat) (name : List UInt8) (hn : name.length = n) (h1 : 1 ≤ n) (h2 : n ≤ 64) (hc : n ≤ c) (hcm : c ≤ 9223372036854775807) (hr : Rd w w.heap.size A name)
    (h : HeadV) (hok : h.Ok) (hp : RdF w F h.pa h.pl) (Au : Option Addr) (nu cu : Nat) (u : List UInt8) (hu : u.length = nu) (hu4 : nu ≤ 3999) (hru : Rd w w.heap.size Au u) (del : Bool) (hN5 : N.length ≤ 100000) (hL5 : L.length ≤ 100000)
    (ht : Tab w) (hg1 : 0 < w.heap.size) (hpt : PTab w) (hg2 : 1 < w.heap.size) (hgF : 0 ∉ F) (hin : (h.c.toNat, h.n.toNat) ∈ L.map cn) :
    Calls Tryd.prog 7 #[.pointer (some ⟨v, 0, none⟩), .slice A n c, .agg h.row, .slice Au nu cu, .bool del] w fun r w' => r = .returned (.tuple #[.agg eRow0, .int .i64 13]) ∧ Leaves (VS id v sp nm kn K (bN id N name) L) w F w' := by
  obtain ⟨g, hg⟩ : ∃ g, w.heap.size = g := ⟨_, rfl⟩
  obtain ⟨w1, hw1⟩ : ∃ W, w.alloc (.cells h.row 35) = W := ⟨_, rfl⟩
  obtain ⟨w2, hw2⟩ : ∃ W, w1.alloc (.cells eRow0 38) = W := ⟨_, rfl⟩
  have hz := zeroE w1
  have s1 : w1.heap.size = g + 1 := by rw [← hw1, ← hg]; simp
  have S2 : w2.heap.size = g + 2 := by rw [← hw2]; simp [s1]
  have b1 : Below w.heap.size w w1 := by rw [← hw1]; exact (Below.refl _ _).alloc (Nat.le_refl _) _
  have b2 : Below w1.heap.size w1 w2 := by rw [← hw2]; exact (Below.refl _ _).alloc (Nat.le_refl _) _
  have X2 := hidxd_ (b1.trans (b2.mono b1.size))
  have H2 := hidxd_ (show Bk w2 g 35 h.row by have k := Bk.new w 35 h.row; rw [hw1, hg] at k; exact k.below b2 k.lt)
  have E2 := hidxd_ (show Bk w2 (g + 1) 38 eRow0 by have k := Bk.new w1 38 eRow0; rw [hw2, s1] at k; exact k)
  have HG := hidxd_ hg
  have ci := isName_any w2 A n c
  rw [show (decide (1 ≤ n) && decide (n ≤ 64)) = true by rw [← Bool.decide_and]; exact decide_eq_true ⟨h1, h2⟩] at ci
  have ci2 := isHead_any w2 h
  rw [decide_eq_true hok] at ci2
  have hbz := zB
  have HN := hidxd_ hn
  have RN := hidxd_ hr
  have OK := hidxd_ hok
  have RP := hidxd_ hp
  have HU := hidxd_ hu
  have RU := hidxd_ hru
  have TB := hidxd_ ht
  have PT := hidxd_ hpt
  have VV := hidxd_ hv
  have HF := hidxd_ (fun k hk => (VS.foot id v sp nm kn K N L).lt hv k hk)
  have BE := hidxd_ (show bE name = 0 by unfold bE; rw [if_neg (show ¬ nmBad name by unfold nmBad; omega)])
  obtain ⟨Kb, hKb⟩ : ∃ x, bV id K N name = x := ⟨_, rfl⟩
  have HKB := hidxd_ hKb
  have KL := hidxd_ (show Kb.length = 32 by rw [← hKb]; exact bV_len _ _ _ _)
  have IB := hidxd_ (iBl Kb KL.out)
  have SB := hidxd_ (show (rowOf (zbytes 32)).size = (rowOf Kb).size by rw [rowOf_size, rowOf_size, KL.out, zbytes_len])
  obtain ⟨X, hX⟩ : ∃ x, esX id K N name h = x := ⟨_, rfl⟩
  have HX := hidxd_ (show boundB Kb h = X by rw [← hX, ← hKb]; rfl)
  obtain ⟨q, hq⟩ : ∃ q, X.length = q := ⟨_, rfl⟩
  have HXL := hidxd_ hq
  have q4 : q ≤ 4164 := by rw [← hq, ← HX.out, boundB_len Kb KL.out]; have := hok.2.2.2.2; omega
  obtain ⟨P, hP⟩ : ∃ x, esP del u = x := ⟨_, rfl⟩
  obtain ⟨m, hm⟩ : ∃ m, P.length = m := ⟨_, rfl⟩
  have HPL := hidxd_ hm
  have m4 : m ≤ 4096 := by rw [← hm, ← hP, esP_len del u (by omega)]; exact clsS_le _
  have hmm : clsS (packB del u).length = m := by rw [← hm, ← hP, esP_len del u (by omega)]
  have HC1 := hidxd_ hmm
  have HC2 := hidxd_ (show padB (packB del u) = P from hP)
  have SE := hidxd_ (show sE L h.e h.c h.n = 13 by unfold sE; rw [if_pos (HeadV.slOk OK.out), if_pos hin])
  have SL := hidxd_ (show sL id K L h.e h.c h.n X P = L by unfold sL; rw [if_neg (fun hh => hh.2 hin)])
  clear b1 b2 hn hr hok hp hu hru ht hpt hv hKb hX hq hP hm hmm hin h1 h2
  go_enter Tryd.func7, Tryd.ntmps7
  go_wp2_with (first
    | (go_at_call 11; ((with_reducible refine ci.mono ?_); clear ci; rintro e w' ⟨rfl, rfl⟩))
    | (refine wpList_load_rowW (by go_simp) 35 (.tmp 7) rfl g rfl 35 h.row H2.out _ Tryd.underlying35 rfl (iHead h) ?_)
    | (go_at_call 12; ((with_reducible refine ci2.mono ?_); clear ci2; rintro e w3 ⟨rfl, hB⟩; have X3 := hidxd_ (X2.out.trans (hB.mono X2.out.size)); have E3 := hidxd_ (E2.out.below hB E2.out.lt); have H3 := hidxd_ (H2.out.below hB H2.out.lt); clear hB))
    | (go_at_call 13; have cp := packed_any w3 Au nu cu u del HU.out hu4 ((RU.out.below X3.out).more X3.out.size) (PT.out.below X3.out hg2) (Nat.lt_of_lt_of_le hg2 X3.out.size); rw [HC1.out, HC2.out] at cp; ((with_reducible refine cp.mono ?_); clear cp; rintro e w4 ⟨A4, c4, rfl, hO, hB⟩; have X4 := hidxd_ (X3.out.trans (hB.mono X3.out.size)); have E4 := hidxd_ (E3.out.below hB E3.out.lt); have H4 := hidxd_ (H3.out.below hB H3.out.lt); obtain ⟨hc4, hc4m⟩ := hO.cap; have P4 := hidxd_ (rdf_of (F' := F) hO.rd.1 (fun a e hm => by have h1 := (ownX hO a e).1; have h2 := HF.out _ hm; have h3 := X3.out.size; omega)); clear hB hO; have V4 := hidxd_ ((VS.foot id v sp nm kn K N L).keep VV.out (Untouched.of_below (F := []) X4.out) (fun _ _ => by simp)); have cb := vblind_x V4.out A n c name HN.out hc hcm ((RN.out.below X4.out).more X4.out.size) hN5 (tab_un (F := []) TB.out (Untouched.of_below X4.out) hg1 (fun hm => by cases hm)) (Nat.lt_of_lt_of_le hg1 X4.out.size); rw [BE.out, HKB.out] at cb))
    | (go_at_call 14; ((with_reducible refine cb.mono ?_); clear cb; rintro e w5 ⟨rfl, F5, hV, hGr, hUn⟩; have V5 := hidxd_ hV; have G5 := hidxd_ ((Grew.refl w F).trans X4.out.size hGr); have U5 := hidxd_ ((Untouched.of_below (F := F) X4.out).trans (Grew.refl w F) hUn); have n0 := hidxd_ (nf_ HF.out hGr (Nat.le_of_eq HG.out) H4.out.lt); have n1 := hidxd_ (nf_ HF.out hGr (by have := HG.out; omega) E4.out.lt); have E5 := hidxd_ (E4.out.untouched hUn (fun hm => by have := HF.out _ hm; have := HG.out; omega)); have H5 := hidxd_ (H4.out.untouched hUn (fun hm => by have := HF.out _ hm; have := HG.out; omega)); have P5 := hidxd_ (P4.out.keep hUn hGr); have Q5 := hidxd_ (RP.out.keep U5.out G5.out); have L5 := hidxd_ (fun k hk => (VS.foot id v sp nm kn K (bN id N name) L).lt hV k hk); clear hV hGr hUn))
    | (refine wpList_put_row rfl 36 (.tmp 14) (.tmp 44) rfl w5.heap.size (rowOf Kb) rfl rfl 36 (rowOf (zbytes 32)) (Bk.new w5 _ _) IB.out SB.out (bytes_one _) ?_; intro w6 k6 g6 s6; have X6 := hidxd_ (((Below.refl w5.heap.size w5).alloc (Nat.le_refl _) _).grown g6 (by simp) (fun k hk => by injection hk with hk; omega)); have K6 := hidxd_ k6; have H6 := hidxd_ (H5.out.below X6.out H5.out.lt); have Q6 := hidxd_ (Q5.out.keep (Untouched.of_below (F := F5) X6.out) (Grew.refl w5 F5)); have cu6 := bound_any w6 Kb KL.out h OK.out Q6.out.rd; rw [HX.out] at cu6; clear k6 g6 s6)
    | (refine wpList_load_rowW (by go_simp) 36 (.tmp 14) rfl w5.heap.size rfl 36 (rowOf Kb) K6.out _ Tryd.underlying36 rfl IB.out ?_)
    | (refine wpList_load_rowW (by go_simp) 35 (.tmp 7) rfl g rfl 35 h.row H6.out _ Tryd.underlying35 rfl (iHead h) ?_)
    | (go_at_call 15; ((with_reducible refine cu6.mono ?_); clear cu6; rintro e w7 ⟨g8, F8, rfl, hO, hF8, hB⟩; have X7 := hidxd_ (X6.out.trans (hB.mono X6.out.size)); have K7 := hidxd_ (K6.out.below hB K6.out.lt); have cd : Calls Tryd.prog 16 #[.pointer (some ⟨g8, 0, none⟩)] w7 (fun e w' => ∃ A c, e = .returned (.tuple #[.slice A q c, .int .i64 0]) ∧ Own8 w' w7.heap.size (.slice A q c) X ∧ Below w7.heap.size w7 w') := done_any w7 g8 q X false F8 hO HXL.out (by omega); clear hO hF8 hB))
    | (go_at_call 16; ((with_reducible refine cd.mono ?_); clear cd; rintro e w8 ⟨A9, c9, rfl, hO, hB⟩; have X8 := hidxd_ (X7.out.trans (hB.mono X7.out.size)); have K8 := hidxd_ (K7.out.below hB K7.out.lt); have H8 := hidxd_ (H5.out.below X8.out H5.out.lt); have E8 := hidxd_ (E5.out.below X8.out E5.out.lt); have V8 := hidxd_ ((VS.foot id v sp nm kn K (bN id N name) L).keep V5.out (Untouched.of_below (F := []) X8.out) (fun _ _ => by simp)); have P8 := hidxd_ (P5.out.keep (Untouched.of_below (F := F5) X8.out) (Grew.refl w5 F5)); have Q8 := hidxd_ (Q5.out.keep (Untouched.of_below (F := F5) X8.out) (Grew.refl w5 F5)); have U8 := hidxd_ (U5.out.trans G5.out (Untouched.of_below (F := F5) X8.out)); obtain ⟨k0, k1, k2, k3, k4⟩ := head_cells H8.out; have cs := vseal_c V8.out A9 A4 q c9 m c4 X P HXL.out HPL.out hO.rd.1 P8.out.rd (by omega) (by omega) hc4 hc4m h.e h.c h.n hL5 (tab_un TB.out U8.out hg1 hgF) (Nat.lt_of_lt_of_le hg1 U8.out.size); unfold SealC at cs; rw [SE.out] at cs; clear hO hB))
    | (go_at_call 17; ((with_reducible refine cs.mono ?_); clear cs k0 k1 k2 k3 k4; rintro e w9 ⟨A10, c10, F9, rfl, hO9, hV, hGr, hUn, hAp⟩; have O9 := hidxd_ hO9; have A9l := hidxd_ (fun a e => (hAp a e).2.1); have V9 := hidxd_ hV; have G9 := hidxd_ (G5.out.trans U8.out.size hGr); have U9 := hidxd_ (U8.out.trans G5.out hUn); have E9 := hidxd_ (E8.out.untouched hUn n1.out); have H9 := hidxd_ (H8.out.untouched hUn n0.out); have K9 := hidxd_ (K8.out.untouched hUn (fun hm => by have := L5.out _ hm; omega)); have m0 := hidxd_ (fun hm => (hGr g hm).elim n0.out (fun h => by have := H8.out.lt; omega)); have m1 := hidxd_ (fun hm => (hGr (g + 1) hm).elim n1.out (fun h => by have := E8.out.lt; omega)); have Q9 := hidxd_ (Q8.out.keep hUn hGr); have A9p := hidxd_ (fun a e => (hAp a e).2.2); have L9 := hidxd_ (fun k hk => (VS.foot id v sp nm kn K (bN id N name) (sL id K L h.e h.c h.n X P)).lt hV k hk); have k4 := (head_cells H9.out).2.2.2.2; have h8g := E8.out.lt; clear hV hGr hUn hAp hO9))
    | (refine wpList_built rfl 38 #[] rfl eRow0 built_e0 ?_)
    | (refine wpList_put_row rfl 38 (.tmp 10) (.tmp 77) rfl (g + 1) eRow0 rfl rfl 38 eRow0 E9.out (iE _ rfl _ _ _ _) rfl (eRow_one _ _ _ _ _) ?_; intro w12 k12 g12 s12; have K12 := hidxd_ k12; have U12 := hidxd_ (Untouched.of_grown (F := [g + 1]) g12 (fun k hk => by injection hk with hk; simp [hk])); clear k12 g12 s12))
  exact bodyPost_ret (results_cell_slotE Tryd.results7 _ _ (g + 1) rfl rfl (run_loadVar_row _ _ _ _ _ (0, 0) _ K12.out Tryd.underlying38 rfl (iE _ rfl _ _ _ _))) rfl ⟨rfl, F9, by
    have h1 := V9.out
    rw [SL.out] at h1
    exact (VS.foot id v sp nm kn K (bN id N name) L).keep h1 U12.out (fun k hk hm => by rw [List.mem_singleton.1 hm] at hk; exact m1.out hk), G9.out, U9.out.trans (F' := [g + 1]) (fun k hk => .inr (by rw [List.mem_singleton.1 hk]; have := HG.out; omega)) U12.out⟩

set_option maxRecDepth 100000 in
set_option maxHeartbeats 16000000 in
theorem seal_own {id : Bool} {v sp nm kn : Nat} {K : List UInt8} {N : List (List UInt8)} {L : List SealV} {w : World} {F : List Nat} (hv : VS id v sp nm kn K N L w F) (A : Option Addr) (n c : Nat) (name : List UInt8) (hn : name.length = n) (h1 : 1 ≤ n) (h2 : n ≤ 64) (hc : n ≤ c) (hcm : c ≤ 9223372036854775807) (hr : Rd w w.heap.size A name)
    (h : HeadV) (hok : h.Ok) (hp : RdF w F h.pa h.pl) (Au : Option Addr) (nu cu : Nat) (u : List UInt8) (hu : u.length = nu) (hu4 : nu ≤ 3999) (hru : Rd w w.heap.size Au u) (del : Bool) (hN5 : N.length ≤ 100000) (hL5 : L.length ≤ 100000)
    (ht : Tab w) (hg1 : 0 < w.heap.size) (hpt : PTab w) (hg2 : 1 < w.heap.size) (hgF : 0 ∉ F) (hin : (h.c.toNat, h.n.toNat) ∉ L.map cn) :
    Calls Tryd.prog 7 #[.pointer (some ⟨v, 0, none⟩), .slice A n c, .agg h.row, .slice Au nu cu, .bool del] w (EsW id v sp nm kn K N L w F name h (esX id K N name h) (esP del u)) := by
  obtain ⟨g, hg⟩ : ∃ g, w.heap.size = g := ⟨_, rfl⟩
  obtain ⟨w1, hw1⟩ : ∃ W, w.alloc (.cells h.row 35) = W := ⟨_, rfl⟩
  obtain ⟨w2, hw2⟩ : ∃ W, w1.alloc (.cells eRow0 38) = W := ⟨_, rfl⟩
  have hz := zeroE w1
  have s1 : w1.heap.size = g + 1 := by rw [← hw1, ← hg]; simp
  have S2 : w2.heap.size = g + 2 := by rw [← hw2]; simp [s1]
  have b1 : Below w.heap.size w w1 := by rw [← hw1]; exact (Below.refl _ _).alloc (Nat.le_refl _) _
  have b2 : Below w1.heap.size w1 w2 := by rw [← hw2]; exact (Below.refl _ _).alloc (Nat.le_refl _) _
  have X2 := hidxd_ (b1.trans (b2.mono b1.size))
  have H2 := hidxd_ (show Bk w2 g 35 h.row by have k := Bk.new w 35 h.row; rw [hw1, hg] at k; exact k.below b2 k.lt)
  have E2 := hidxd_ (show Bk w2 (g + 1) 38 eRow0 by have k := Bk.new w1 38 eRow0; rw [hw2, s1] at k; exact k)
  have HG := hidxd_ hg
  have ci := isName_any w2 A n c
  rw [show (decide (1 ≤ n) && decide (n ≤ 64)) = true by rw [← Bool.decide_and]; exact decide_eq_true ⟨h1, h2⟩] at ci
  have ci2 := isHead_any w2 h
  rw [decide_eq_true hok] at ci2
  have hbz := zB
  have HN := hidxd_ hn
  have RN := hidxd_ hr
  have OK := hidxd_ hok
  have RP := hidxd_ hp
  have HU := hidxd_ hu
  have RU := hidxd_ hru
  have TB := hidxd_ ht
  have PT := hidxd_ hpt
  have VV := hidxd_ hv
  have HF := hidxd_ (fun k hk => (VS.foot id v sp nm kn K N L).lt hv k hk)
  have BE := hidxd_ (show bE name = 0 by unfold bE; rw [if_neg (show ¬ nmBad name by unfold nmBad; omega)])
  obtain ⟨Kb, hKb⟩ : ∃ x, bV id K N name = x := ⟨_, rfl⟩
  have HKB := hidxd_ hKb
  have KL := hidxd_ (show Kb.length = 32 by rw [← hKb]; exact bV_len _ _ _ _)
  have IB := hidxd_ (iBl Kb KL.out)
  have SB := hidxd_ (show (rowOf (zbytes 32)).size = (rowOf Kb).size by rw [rowOf_size, rowOf_size, KL.out, zbytes_len])
  obtain ⟨X, hX⟩ : ∃ x, esX id K N name h = x := ⟨_, rfl⟩
  have HX := hidxd_ (show boundB Kb h = X by rw [← hX, ← hKb]; rfl)
  obtain ⟨q, hq⟩ : ∃ q, X.length = q := ⟨_, rfl⟩
  have HXL := hidxd_ hq
  have q4 : q ≤ 4164 := by rw [← hq, ← HX.out, boundB_len Kb KL.out]; have := hok.2.2.2.2; omega
  obtain ⟨P, hP⟩ : ∃ x, esP del u = x := ⟨_, rfl⟩
  obtain ⟨m, hm⟩ : ∃ m, P.length = m := ⟨_, rfl⟩
  have HPL := hidxd_ hm
  have m4 : m ≤ 4096 := by rw [← hm, ← hP, esP_len del u (by omega)]; exact clsS_le _
  have hmm : clsS (packB del u).length = m := by rw [← hm, ← hP, esP_len del u (by omega)]
  have HC1 := hidxd_ hmm
  have HC2 := hidxd_ (show padB (packB del u) = P from hP)
  rw [hX, hP]
  have SE := hidxd_ (show sE L h.e h.c h.n = 0 by unfold sE; rw [if_pos (HeadV.slOk OK.out), if_neg hin])
  obtain ⟨ns, hns⟩ : ∃ ns, (sB id K L h.e h.c h.n X P).length = ns := ⟨_, rfl⟩
  have HNS := hidxd_ hns
  clear hns
  clear b1 b2 hn hr hok hp hu hru ht hpt hv hKb hX hq hP hm hmm hin h1 h2
  go_enter Tryd.func7, Tryd.ntmps7
  go_wp2_with (first
    | (go_at_call 11; ((with_reducible refine ci.mono ?_); clear ci; rintro e w' ⟨rfl, rfl⟩))
    | (refine wpList_load_rowW (by go_simp) 35 (.tmp 7) rfl g rfl 35 h.row H2.out _ Tryd.underlying35 rfl (iHead h) ?_)
    | (go_at_call 12; ((with_reducible refine ci2.mono ?_); clear ci2; rintro e w3 ⟨rfl, hB⟩; have X3 := hidxd_ (X2.out.trans (hB.mono X2.out.size)); have E3 := hidxd_ (E2.out.below hB E2.out.lt); have H3 := hidxd_ (H2.out.below hB H2.out.lt); clear hB))
    | (go_at_call 13; have cp := packed_any w3 Au nu cu u del HU.out hu4 ((RU.out.below X3.out).more X3.out.size) (PT.out.below X3.out hg2) (Nat.lt_of_lt_of_le hg2 X3.out.size); rw [HC1.out, HC2.out] at cp; ((with_reducible refine cp.mono ?_); clear cp; rintro e w4 ⟨A4, c4, rfl, hO, hB⟩; have X4 := hidxd_ (X3.out.trans (hB.mono X3.out.size)); have E4 := hidxd_ (E3.out.below hB E3.out.lt); have H4 := hidxd_ (H3.out.below hB H3.out.lt); obtain ⟨hc4, hc4m⟩ := hO.cap; have P4 := hidxd_ (rdf_of (F' := F) hO.rd.1 (fun a e hm => by have h1 := (ownX hO a e).1; have h2 := HF.out _ hm; have h3 := X3.out.size; omega)); clear hB hO; have V4 := hidxd_ ((VS.foot id v sp nm kn K N L).keep VV.out (Untouched.of_below (F := []) X4.out) (fun _ _ => by simp)); have cb := vblind_x V4.out A n c name HN.out hc hcm ((RN.out.below X4.out).more X4.out.size) hN5 (tab_un (F := []) TB.out (Untouched.of_below X4.out) hg1 (fun hm => by cases hm)) (Nat.lt_of_lt_of_le hg1 X4.out.size); rw [BE.out, HKB.out] at cb))
    | (go_at_call 14; ((with_reducible refine cb.mono ?_); clear cb; rintro e w5 ⟨rfl, F5, hV, hGr, hUn⟩; have V5 := hidxd_ hV; have G5 := hidxd_ ((Grew.refl w F).trans X4.out.size hGr); have U5 := hidxd_ ((Untouched.of_below (F := F) X4.out).trans (Grew.refl w F) hUn); have n0 := hidxd_ (nf_ HF.out hGr (Nat.le_of_eq HG.out) H4.out.lt); have n1 := hidxd_ (nf_ HF.out hGr (by have := HG.out; omega) E4.out.lt); have E5 := hidxd_ (E4.out.untouched hUn (fun hm => by have := HF.out _ hm; have := HG.out; omega)); have H5 := hidxd_ (H4.out.untouched hUn (fun hm => by have := HF.out _ hm; have := HG.out; omega)); have P5 := hidxd_ (P4.out.keep hUn hGr); have Q5 := hidxd_ (RP.out.keep U5.out G5.out); have L5 := hidxd_ (fun k hk => (VS.foot id v sp nm kn K (bN id N name) L).lt hV k hk); clear hV hGr hUn))
    | (refine wpList_put_row rfl 36 (.tmp 14) (.tmp 44) rfl w5.heap.size (rowOf Kb) rfl rfl 36 (rowOf (zbytes 32)) (Bk.new w5 _ _) IB.out SB.out (bytes_one _) ?_; intro w6 k6 g6 s6; have X6 := hidxd_ (((Below.refl w5.heap.size w5).alloc (Nat.le_refl _) _).grown g6 (by simp) (fun k hk => by injection hk with hk; omega)); have K6 := hidxd_ k6; have H6 := hidxd_ (H5.out.below X6.out H5.out.lt); have Q6 := hidxd_ (Q5.out.keep (Untouched.of_below (F := F5) X6.out) (Grew.refl w5 F5)); have cu6 := bound_any w6 Kb KL.out h OK.out Q6.out.rd; rw [HX.out] at cu6; clear k6 g6 s6)
    | (refine wpList_load_rowW (by go_simp) 36 (.tmp 14) rfl w5.heap.size rfl 36 (rowOf Kb) K6.out _ Tryd.underlying36 rfl IB.out ?_)
    | (refine wpList_load_rowW (by go_simp) 35 (.tmp 7) rfl g rfl 35 h.row H6.out _ Tryd.underlying35 rfl (iHead h) ?_)
    | (go_at_call 15; ((with_reducible refine cu6.mono ?_); clear cu6; rintro e w7 ⟨g8, F8, rfl, hO, hF8, hB⟩; have X7 := hidxd_ (X6.out.trans (hB.mono X6.out.size)); have K7 := hidxd_ (K6.out.below hB K6.out.lt); have cd : Calls Tryd.prog 16 #[.pointer (some ⟨g8, 0, none⟩)] w7 (fun e w' => ∃ A c, e = .returned (.tuple #[.slice A q c, .int .i64 0]) ∧ Own8 w' w7.heap.size (.slice A q c) X ∧ Below w7.heap.size w7 w') := done_any w7 g8 q X false F8 hO HXL.out (by omega); clear hO hF8 hB))
    | (go_at_call 16; ((with_reducible refine cd.mono ?_); clear cd; rintro e w8 ⟨A9, c9, rfl, hO, hB⟩; have X8 := hidxd_ (X7.out.trans (hB.mono X7.out.size)); have K8 := hidxd_ (K7.out.below hB K7.out.lt); have H8 := hidxd_ (H5.out.below X8.out H5.out.lt); have E8 := hidxd_ (E5.out.below X8.out E5.out.lt); have V8 := hidxd_ ((VS.foot id v sp nm kn K (bN id N name) L).keep V5.out (Untouched.of_below (F := []) X8.out) (fun _ _ => by simp)); have P8 := hidxd_ (P5.out.keep (Untouched.of_below (F := F5) X8.out) (Grew.refl w5 F5)); have Q8 := hidxd_ (Q5.out.keep (Untouched.of_below (F := F5) X8.out) (Grew.refl w5 F5)); have U8 := hidxd_ (U5.out.trans G5.out (Untouched.of_below (F := F5) X8.out)); obtain ⟨k0, k1, k2, k3, k4⟩ := head_cells H8.out; have cs := vseal_c V8.out A9 A4 q c9 m c4 X P HXL.out HPL.out hO.rd.1 P8.out.rd (by omega) (by omega) hc4 hc4m h.e h.c h.n hL5 (tab_un TB.out U8.out hg1 hgF) (Nat.lt_of_lt_of_le hg1 U8.out.size); unfold SealC at cs; rw [SE.out, HNS.out] at cs; clear hO hB))
    | (go_at_call 17; ((with_reducible refine cs.mono ?_); clear cs k0 k1 k2 k3 k4; rintro e w9 ⟨A10, c10, F9, rfl, hO9, hV, hGr, hUn, hAp⟩; have O9 := hidxd_ hO9; have A9l := hidxd_ (fun a e => (hAp a e).2.1); have V9 := hidxd_ hV; have G9 := hidxd_ (G5.out.trans U8.out.size hGr); have U9 := hidxd_ (U8.out.trans G5.out hUn); have E9 := hidxd_ (E8.out.untouched hUn n1.out); have H9 := hidxd_ (H8.out.untouched hUn n0.out); have K9 := hidxd_ (K8.out.untouched hUn (fun hm => by have := L5.out _ hm; omega)); have m0 := hidxd_ (fun hm => (hGr g hm).elim n0.out (fun h => by have := H8.out.lt; omega)); have m1 := hidxd_ (fun hm => (hGr (g + 1) hm).elim n1.out (fun h => by have := E8.out.lt; omega)); have Q9 := hidxd_ (Q8.out.keep hUn hGr); have A9p := hidxd_ (fun a e => (hAp a e).2.2); have L9 := hidxd_ (fun k hk => (VS.foot id v sp nm kn K (bN id N name) (sL id K L h.e h.c h.n X P)).lt hV k hk); have k4 := (head_cells H9.out).2.2.2.2; have h8g := E8.out.lt; have HS89 := hidxd_ hUn.size; clear hV hGr hUn hAp hO9))
    | (go_at_call 18; have cl := clone_any h.pa h.pl.length h.pc h.pl w9 rfl Q9.out.rd (by have := OK.out.2.2.2.2; omega); ((with_reducible refine cl.mono ?_); clear cl; rintro e w10 ⟨A11, c11, rfl, hO, hB⟩; obtain ⟨w11, hw11⟩ : ∃ W, w10.setCell ⟨g, 4, none⟩ (.slice A11 h.pl.length c11) = W := ⟨_, rfl⟩; have H10 := H9.out.below hB H9.out.lt; have U11 := hidxd_ (show Untouched [g, g + 1] w9 w11 from (Untouched.of_below (F := [g, g + 1]) hB).trans (Grew.refl w9 _) (by rw [← hw11]; exact Untouched.set g 4 (by simp) _)); have H11 := hidxd_ (show Bk w11 g 35 ({ h with pa := A11, pc := c11 } : HeadV).row by rw [← hw11, ← HeadV.put]; exact H10.set_ 4 _); have E11 := hidxd_ (show Bk w11 (g + 1) 38 eRow0 by rw [← hw11]; exact (E9.out.below hB E9.out.lt).untouched (Untouched.set (w := w10) (F := [g]) g 4 (by simp) _) (by simp)); have K11 := hidxd_ (show Bk w11 w5.heap.size 36 (rowOf Kb) by rw [← hw11]; exact (K9.out.below hB K9.out.lt).untouched (Untouched.set (w := w10) (F := [g]) g 4 (by simp) _) (fun hm => by have := List.mem_singleton.1 hm; have := E5.out.lt; omega)); have T11 := hidxd_ (show Untouched [g, g + 1] w10 w11 by rw [← hw11]; exact Untouched.set g 4 (by simp) _); have O10 := hidxd_ hO; have B11 := hidxd_ (fun a e => (ownX hO a e).1); have k4' := (head_cells H10).2.2.2.2; have kf := H10.frozen 4; clear hO hB H10))
    | (refine wpList_load_rowW (by go_simp) 36 (.tmp 14) rfl w5.heap.size rfl 36 (rowOf Kb) K11.out _ Tryd.underlying36 rfl IB.out ?_)
    | (refine wpList_load_rowW (by go_simp) 35 (.tmp 7) rfl g rfl 35 ({ h with pa := A11, pc := c11 } : HeadV).row H11.out _ Tryd.underlying35 rfl (iHead _) ?_)
    | (refine wpList_built rfl 38 #[(0, .tmp 83), (1, .tmp 84), (2, .tmp 85)] rfl (eRow Kb { h with pa := A11, pc := c11 } A10 ns c10) (by simp only [List.map_toArray, List.map_cons, List.map_nil]; exact built_e Kb KL.out _ _ _ _) ?_)
    | (refine wpList_put_row rfl 38 (.tmp 10) (.tmp 86) rfl (g + 1) (eRow Kb { h with pa := A11, pc := c11 } A10 ns c10) rfl rfl 38 eRow0 E11.out (iE _ KL.out _ _ _ _) (by rw [eRow_size _ KL.out]; rfl) (eRow_one _ _ _ _ _) ?_; intro w12 k12 g12 s12; have K12 := hidxd_ k12; have V12 := hidxd_ (Untouched.of_grown (F := [g, g + 1]) g12 (fun k hk => by injection hk with hk; simp [hk])); have U12 := hidxd_ (U11.out.trans (Grew.refl w9 _) V12.out); clear k12 g12 s12))
  have hlt : ∀ k ∈ [g, g + 1], k < w8.heap.size := fun k hm => by
    rcases List.mem_cons.1 hm with e | hm
    · omega
    · have := List.mem_singleton.1 hm; omega
  have hs9 : w8.heap.size ≤ w9.heap.size := HS89.out
  have OP := O10.out.untouched (T11.out.trans (Grew.refl w10 _) V12.out) (fun k hm => Nat.lt_of_lt_of_le (hlt k hm) hs9)
  have OS := O9.out.untouched U12.out hlt
  exact bodyPost_ret (results_cell_slotE Tryd.results7 _ _ (g + 1) rfl rfl (run_loadVar_row _ _ _ _ _ (0, 0) _ K12.out Tryd.underlying38 rfl (iE _ KL.out _ _ _ _))) rfl ⟨A11, c11, A10, c10, F9, by rw [HKB.out, HNS.out]; rfl, OP.lower (Nat.le_trans U8.out.size hs9), by rw [HNS.out]; exact OS.lower U8.out.size, fun a e hm => by have h1 := B11.out a e; have h2 := L9.out _ hm; omega, A9p.out, fun a b ea eb e => by have h1 := B11.out a ea; have h2 := A9l.out b eb; omega,
    (VS.foot id v sp nm kn K (bN id N name) (sL id K L h.e h.c h.n X P)).keep V9.out U12.out (fun k hk hm => by
      rcases List.mem_cons.1 hm with e | hm
      · rw [e] at hk; exact m0.out hk
      · rw [List.mem_singleton.1 hm] at hk; exact m1.out hk), G9.out, U9.out.trans (F' := [g, g + 1]) (fun k hk => .inr (by
      rcases List.mem_cons.1 hk with e | hk
      · rw [e]; exact Nat.le_of_eq HG.out
      · rw [List.mem_singleton.1 hk]; have := HG.out; omega)) U12.out⟩
theorem seal_yes {id : Bool} {v sp nm kn : Nat} {K : List UInt8} {N : List (List UInt8)} {L : List SealV} {w : World} {F : List Nat} (hv : VS id v sp nm kn K N L w F) (A : Option Addr) (n c : Nat) (name : List UInt8) (hn : name.length = n) (h1 : 1 ≤ n) (h2 : n ≤ 64) (hc : n ≤ c) (hcm : c ≤ 9223372036854775807) (hr : Rd w w.heap.size A name)
    (h : HeadV) (hok : h.Ok) (hp : RdF w F h.pa h.pl) (Au : Option Addr) (nu cu : Nat) (u : List UInt8) (hu : u.length = nu) (hu4 : nu ≤ 3999) (hru : Rd w w.heap.size Au u) (del : Bool) (hN5 : N.length ≤ 100000) (hL5 : L.length ≤ 100000)
    (ht : Tab w) (hg1 : 0 < w.heap.size) (hpt : PTab w) (hg2 : 1 < w.heap.size) (hgF : 0 ∉ F) (hin : (h.c.toNat, h.n.toNat) ∉ L.map cn) :
    Calls Tryd.prog 7 #[.pointer (some ⟨v, 0, none⟩), .slice A n c, .agg h.row, .slice Au nu cu, .bool del] w (EsP id v sp nm kn K N L w F name h (esX id K N name h) (esP del u)) :=
  (seal_own hv A n c name hn h1 h2 hc hcm hr h hok hp Au nu cu u hu hu4 hru del hN5 hL5 ht hg1 hpt hg2 hgF hin).mono fun _ _ h => h.p

end Go.Proofs.YtmomnfhoeabdnaaDoor

namespace Go.Proofs.YtmomnfhoeabdnaaDoor
set_option maxRecDepth 100000
open Go.ChangeShapes Go.WideShapes Go.ChangeAt Go.RowKit
set_option linter.unusedVariables false
set_option linter.unusedSimpArgs false

theorem hidxe_ {p : Prop} (h : p) : Hid p := h
theorem eRow_hi (K : List UInt8) (hK : K.length = 32) (h : HeadV) (sa : Option Addr) (sn sc j : Nat) : (eRow K h sa sn sc)[32 + j]? = ([.int .i64 h.e, .int .i64 h.n, .int .i64 h.c, .int .i64 h.d, .slice h.pa h.pl.length h.pc, .slice sa sn sc] : List Value)[j]? := by
  simp only [eRow, List.getElem?_toArray]
  rw [List.getElem?_append_right (by simp [hK])]
  simp [hK]
theorem eRow_lo (K : List UInt8) (hK : K.length = 32) (h : HeadV) (sa : Option Addr) (sn sc j : Nat) (hj : j < 32) : (eRow K h sa sn sc)[j]? = (rowOf K)[j]? := by
  simp only [eRow, rowOf, List.getElem?_toArray]
  rw [List.getElem?_append_left (by simp [hK, hj])]
theorem env_cells {w : World} {g : Nat} {K : List UInt8} (hK : K.length = 32) {h : HeadV} {sa : Option Addr} {sn sc : Nat} (k : Bk w g 38 (eRow K h sa sn sc)) :
    w.cell? ⟨g, 32, none⟩ = some (.int .i64 h.e) ∧ w.cell? ⟨g, 33, none⟩ = some (.int .i64 h.n) ∧ w.cell? ⟨g, 34, none⟩ = some (.int .i64 h.c) ∧ w.cell? ⟨g, 36, none⟩ = some (.slice h.pa h.pl.length h.pc) ∧ w.cell? ⟨g, 37, none⟩ = some (.slice sa sn sc) :=
  ⟨(k.cell 32).trans (eRow_hi K hK h sa sn sc 0), (k.cell 33).trans (eRow_hi K hK h sa sn sc 1), (k.cell 34).trans (eRow_hi K hK h sa sn sc 2), (k.cell 36).trans (eRow_hi K hK h sa sn sc 4), (k.cell 37).trans (eRow_hi K hK h sa sn sc 5)⟩
theorem env_head {w : World} {g : Nat} {K : List UInt8} (hK : K.length = 32) {h : HeadV} {sa : Option Addr} {sn sc : Nat} (k : Bk w g 38 (eRow K h sa sn sc)) : ∀ j, j < h.row.size → w.cell? ⟨g, 32 + j, none⟩ = h.row[j]? := fun j hj => by
  rw [k.cell, eRow_hi K hK]
  have : j < 5 := hj
  rcases j with _ | _ | _ | _ | _ | j
  all_goals first
    | rfl
    | omega
theorem env_key {w : World} {g : Nat} {K : List UInt8} (hK : K.length = 32) {h : HeadV} {sa : Option Addr} {sn sc : Nat} (k : Bk w g 38 (eRow K h sa sn sc)) : ∀ j, j < (rowOf K).size → w.cell? ⟨g, 0 + j, none⟩ = (rowOf K)[j]? := fun j hj => by
  rw [rowOf_size, hK] at hj
  rw [Nat.zero_add, k.cell, eRow_lo K hK _ _ _ _ j hj]
theorem neqB32 (l m : List UInt8) (hl : l.length = 32) (hm : m.length = 32) (b : Bool) (hb : (l == m) = !b) (W : World) :
    (binOp .neq 36 (.agg (rowOf l)) (.agg (rowOf m))).run Tryd.prog W = .ok (.bool b) W := by
  rw [run_neq_struct, eqIB32 l m hl hm, hb]
  simp
theorem ptab_un {w w' : World} {F : List Nat} (h : PTab w) (hu : Untouched F w w') (hg : 1 < w.heap.size) (hF : 1 ∉ F) : PTab w' := fun t ht => by
  rw [← h t ht]
  exact World.cell?_of_block (hu.block _ hg hF)
theorem oT_len {id : Bool} {K : List UInt8} {L : List SealV} {e c n : Nat} {x s p : List UInt8} (h : oT id K L e c n x s = some p) (hLb : ∀ t ∈ L, t.b.length ≤ 100000) (hs : s.length ≤ 100000) : p.length ≤ 100000 := by
  unfold oT at h
  split at h
  · cases hf : L.find? (hitS e c n x s) with
    | none => rw [hf] at h; cases h
    | some t =>
      rw [hf] at h
      obtain rfl : t.b = p := by injection h
      exact hLb t (List.mem_of_find?_eq_some hf)
  · split at h
    · injection h with h
      rw [← h, streamB_len, List.length_take]
      omega
    · cases h

set_option maxRecDepth 100000 in
set_option maxHeartbeats 4000000 in
theorem isEnv_no (w : World) (K : List UInt8) (hK : K.length = 32) (h : HeadV) (sa : Option Addr) (sn sc : Nat) (hbad : ¬ h.Ok) :
    Calls Tryd.prog 19 #[.agg (eRow K h sa sn sc)] w fun e w' => e = .returned (.bool false) ∧ Below w.heap.size w w' := by
  obtain ⟨g, hg⟩ : ∃ g, w.heap.size = g := ⟨_, rfl⟩
  obtain ⟨w1, hw1⟩ : ∃ W, w.alloc (.cells (eRow K h sa sn sc) 38) = W := ⟨_, rfl⟩
  have X1 := hidxe_ (show Below w.heap.size w w1 by rw [← hw1]; exact (Below.refl _ _).alloc (Nat.le_refl _) _)
  have K1 := hidxe_ (show Bk w1 g 38 (eRow K h sa sn sc) by rw [← hw1, ← hg]; exact Bk.new w _ _)
  have KH := hidxe_ (env_head hK K1.out)
  have KL := hidxe_ hK
  have ci := isHead_any w1 h
  rw [decide_eq_false hbad] at ci
  clear hK
  go_enter Tryd.func19, Tryd.ntmps19
  go_wp2_with (first
    | (refine wpList_load_sub rfl 35 (.tmp 3) rfl g 32 rfl h.row KH.out _ Tryd.underlying35 rfl (iHead h) ?_)
    | (go_at_call 12; ((with_reducible refine ci.mono ?_); clear ci; rintro e w2 ⟨rfl, hB⟩; have X2 := hidxe_ (X1.out.trans (hB.mono X1.out.size)); clear hB)))
  go_ret
  exact ⟨rfl, X2.out⟩

set_option maxRecDepth 100000 in
set_option maxHeartbeats 4000000 in
theorem isEnv_ok (w : World) (K : List UInt8) (hK : K.length = 32) (h : HeadV) (sa : Option Addr) (sn sc : Nat) (hok : h.Ok) :
    Calls Tryd.prog 19 #[.agg (eRow K h sa sn sc)] w fun e w' => e = .returned (.bool (decide (16 ≤ sn ∧ sn ≤ 8192))) ∧ Below w.heap.size w w' := by
  obtain ⟨g, hg⟩ : ∃ g, w.heap.size = g := ⟨_, rfl⟩
  obtain ⟨w1, hw1⟩ : ∃ W, w.alloc (.cells (eRow K h sa sn sc) 38) = W := ⟨_, rfl⟩
  have X1 := hidxe_ (show Below w.heap.size w w1 by rw [← hw1]; exact (Below.refl _ _).alloc (Nat.le_refl _) _)
  have K1 := hidxe_ (show Bk w1 g 38 (eRow K h sa sn sc) by rw [← hw1, ← hg]; exact Bk.new w _ _)
  have KH := hidxe_ (env_head hK K1.out)
  have KL := hidxe_ hK
  have ci := isHead_any w1 h
  rw [decide_eq_true hok] at ci
  obtain ⟨b, hb⟩ : ∃ b, decide (16 ≤ sn ∧ sn ≤ 8192) = b := ⟨_, rfl⟩
  have DW := hidxe_ (show decide ((16 : Int) ≤ (sn : Int) ∧ (sn : Int) ≤ 8192) = b by rw [← hb, decide_eq_decide]; omega)
  rw [hb]
  clear hb
  clear hK
  go_enter Tryd.func19, Tryd.ntmps19
  go_wp2_with (first
    | (refine wpList_load_sub rfl 35 (.tmp 3) rfl g 32 rfl h.row KH.out _ Tryd.underlying35 rfl (iHead h) ?_)
    | (go_at_call 12; ((with_reducible refine ci.mono ?_); clear ci; rintro e w2 ⟨rfl, hB⟩; have X2 := hidxe_ (X1.out.trans (hB.mono X1.out.size)); have k5 := (env_cells KL.out (K1.out.below hB K1.out.lt)).2.2.2.2; have cw := within_any w2 (sn : Int) 16 8192; rw [DW.out] at cw; clear hB))
    | (go_at_call 25; ((with_reducible refine cw.mono ?_); clear cw; rintro e w3 ⟨rfl, rfl⟩)))
  go_ret
  exact ⟨rfl, X2.out⟩

def EnvOk (h : HeadV) (sn : Nat) : Prop := h.Ok ∧ 16 ≤ sn ∧ sn ≤ 8192
instance (h : HeadV) (sn : Nat) : Decidable (EnvOk h sn) := by unfold EnvOk; infer_instance
theorem isEnv_any (w : World) (K : List UInt8) (hK : K.length = 32) (h : HeadV) (sa : Option Addr) (sn sc : Nat) :
    Calls Tryd.prog 19 #[.agg (eRow K h sa sn sc)] w fun e w' => e = .returned (.bool (decide (EnvOk h sn))) ∧ Below w.heap.size w w' := by
  by_cases hok : h.Ok
  · rw [show decide (EnvOk h sn) = decide (16 ≤ sn ∧ sn ≤ 8192) by rw [decide_eq_decide]; exact ⟨fun x => x.2, fun x => ⟨hok, x⟩⟩]
    exact isEnv_ok w K hK h sa sn sc hok
  · rw [decide_eq_false (fun x : EnvOk h sn => hok x.1)]
    exact isEnv_no w K hK h sa sn sc hok

end Go.Proofs.YtmomnfhoeabdnaaDoor

namespace Go.Proofs.YtmomnfhoeabdnaaDoor
set_option maxRecDepth 100000
open Go.ChangeShapes Go.WideShapes Go.ChangeAt Go.RowKit
set_option linter.unusedVariables false
set_option linter.unusedSimpArgs false

theorem hidxf_ {p : Prop} (h : p) : Hid p := h
/-- A vault that was made since w. -/
structure MineX (w : World) (id : Bool) (v sp nm kn : Nat) (K : List UInt8) (N : List (List UInt8)) (L : List SealV) (F : List Nat) (W : World) : Prop where
  vs : VS id v sp nm kn K N L W F
  own : ∀ k ∈ F, w.heap.size ≤ k
  below : Below w.heap.size w W
section
variable {w W W' : World} {id : Bool} {v sp nm kn : Nat} {K : List UInt8} {N N' : List (List UInt8)} {L L' : List SealV} {F F' : List Nat}
theorem MineX.next (h : MineX w id v sp nm kn K N L F W) (hV : VS id v sp nm kn K N' L' W' F') (hG : Grew W F F') (hU : Untouched F W W') : MineX w id v sp nm kn K N' L' F' W' :=
  ⟨hV, fun k hk => (hG k hk).elim (h.own k) (fun e => Nat.le_trans h.below.size e), h.below.trans (hU.below h.own h.below.size)⟩
theorem MineX.then_ (h : MineX w id v sp nm kn K N L F W) (hB : Below W.heap.size W W') : MineX w id v sp nm kn K N L F W' :=
  ⟨(VS.foot id v sp nm kn K N L).keep h.vs (Untouched.of_below (F := []) hB) (fun _ _ => by simp), h.own, h.below.trans (hB.mono h.below.size)⟩
theorem MineX.lt (h : MineX w id v sp nm kn K N L F W) : ∀ k ∈ F, k < W.heap.size := fun k hk => (VS.foot id v sp nm kn K N L).lt h.vs k hk
theorem MineX.tab (h : MineX w id v sp nm kn K N L F W) (ht : Tab w) (hg : 0 < w.heap.size) : Tab W := tab_un (F := []) ht (Untouched.of_below h.below) hg (fun hm => by cases hm)
theorem MineX.ptab (h : MineX w id v sp nm kn K N L F W) (ht : PTab w) (hg : 1 < w.heap.size) : PTab W := ptab_un (F := []) ht (Untouched.of_below h.below) hg (fun hm => by cases hm)
theorem MineX.glt (h : MineX w id v sp nm kn K N L F W) {g : Nat} (hg : g < w.heap.size) : g < W.heap.size := Nat.lt_of_lt_of_le hg h.below.size
theorem MineX.gF (h : MineX w id v sp nm kn K N L F W) {g : Nat} (hg : g < w.heap.size) : g ∉ F := fun hm => by have := h.own g hm; omega
/-- A block that is none of the vault's stays what it is. -/
theorem bk_out {b : Nat} {t : TypeId} {cs : Array Value} (k : Bk W b t cs) (hb : b ∉ F) (hG : Grew W F F') (hU : Untouched F W W') : Bk W' b t cs ∧ b ∉ F' := ⟨k.untouched hU hb, fun hm => (hG b hm).elim hb (fun e => by have := k.lt; omega)⟩
end
def hA : HeadV := ⟨1, 1, 1, 1, none, [], 0⟩
theorem zeroH (W : World) : (zeroValue 35).run Tryd.prog W = .ok (.agg hd0.row) W := by kernel_rfl
theorem built_hA : Tryd.prog.built 35 [(0, .int .i64 1), (1, .int .i64 1), (2, .agg #[.int .i64 1, .int .i64 1])] = some hA.row := by kernel_rfl
theorem built_dot (c d : Int) : Tryd.prog.built 33 [(0, .int .i64 c), (1, .int .i64 d)] = some #[.int .i64 c, .int .i64 d] := by kernel_rfl
theorem bV_yes (K : List UInt8) (N : List (List UInt8)) (s : List UInt8) (h : ¬ nmBad s) : bV true K N s = drawB K 0 (ordN N s) 24 := by
  unfold bV
  rw [if_neg h]
  rfl
theorem eRow_z : eRow0.size = 38 := by kernel_rfl
theorem mark_put (w w' : World) (g : Nat) (t : TypeId) (cs : Array Value) (o : Obj) (hg : (w.alloc o).grownBy w' (some w.heap.size)) : Below w.heap.size w w' :=
  ((Below.refl w.heap.size w).alloc (Nat.le_refl _) o).grown hg (by simp) (fun k hk => by injection hk with hk; omega)
/-- One envelope that an ideal vault, just made, seals. -/
theorem sealed_one (K : List UInt8) (x b : List UInt8) : sL true K [] 1 1 1 x b = [⟨1, 1, 1, x, drawB K 1 1 (b.length + 8), b⟩] ∧ sB true K [] 1 1 1 x b = drawB K 1 1 (b.length + 8) := ⟨rfl, rfl⟩

end Go.Proofs.YtmomnfhoeabdnaaDoor

namespace Go.Proofs.YtmomnfhoeabdnaaDoor
set_option maxRecDepth 100000
open Go.ChangeShapes Go.WideShapes Go.ChangeAt Go.RowKit
set_option linter.unusedVariables false
set_option linter.unusedSimpArgs false

theorem hidxg_ {p : Prop} (h : p) : Hid p := h
def LvR (id : Bool) (g : Nat) (K : List UInt8) : Nat → Value → World → Prop
  | 0, u, _ => u = .agg (rowOf K)
  | 2, u, _ => u = .slice (some ⟨g, 0, none⟩) 32 32
  | 3, u, _ => u = .string (strOf K)
  | 4, u, _ => u = .agg (rfRow id K)
  | _, _, _ => True
theorem LvR.any {id : Bool} {g : Nat} {K : List UInt8} {j : Nat} {v : Value} {W W' : World} (h : LvR id g K j v W) : LvR id g K j v W' := by
  unfold LvR at h ⊢
  split at h <;> first | exact h | trivial
end Go.Proofs.YtmomnfhoeabdnaaDoor

namespace Go.Proofs.YtmomnfhoeabdnaaDoor
set_option maxRecDepth 100000
open Go.ChangeShapes Go.WideShapes Go.ChangeAt Go.RowKit
set_option linter.unusedVariables false
set_option linter.unusedSimpArgs false

theorem two_parts {P : Program} {W : World} {a b : String} {x y : DataW Unit} (hab : a ≠ b) (h : laidMetH P [(a, x), (b, y)] W) : laidMetH P [(a, x)] W ∧ laidMetH P [(b, y)] W := by
  have h1 := h.filter (fun z => z.1 == a)
  have h2 := h.filter (fun z => z.1 == b)
  simp only [List.filter_cons, List.filter_nil, beq_self_eq_true, if_true, beq_false_of_ne hab, beq_false_of_ne (Ne.symm hab), Bool.false_eq_true, if_false] at h1 h2
  exact ⟨h1, h2⟩
set_option maxHeartbeats 4000000 in
theorem two_of {W : World} (h : laidMetH Tryd.prog [("casket/pad.sizes", Rows.laid_casket_pad_sizes), ("casket/sha2.roundWords", Rows.laid_casket_sha2_roundWords)] W) :
    (PTab W ∧ 1 < W.heap.size) ∧ Tab W ∧ 0 < W.heap.size :=
  ⟨sizes_of (two_parts (by decide) h).1, tab_of (two_parts (by decide) h).2⟩
/-- A world for the witnesses: both lie in it. -/
noncomputable def laidWorldE (os : Os) : World :=
  { laidWorld os with heap := (laidWorld os).heap.modify 1 fun
      | .cells _ t frozen => .cells #[.int .i64 64, .int .i64 256, .int .i64 1024, .int .i64 4096] t frozen
      | o => o }
/-- An Ask by value. -/
structure AskV where
  na : Option Addr
  nl : List UInt8
  nc : Nat
  e : Int
  n : Int
  c : Int
  d : Int
  pa : Option Addr
  pl : List UInt8
  pc : Nat
  va : Option Addr
  vl : List UInt8
  vc : Nat
  del : Bool
def AskV.row (q : AskV) : Array Value := #[.slice q.na q.nl.length q.nc, .int .i64 q.e, .int .i64 q.n, .int .i64 q.c, .int .i64 q.d, .slice q.pa q.pl.length q.pc, .slice q.va q.vl.length q.vc, .bool q.del]
structure AskV.Ok (w : World) (B : Nat) (q : AskV) : Prop where
  rn : Rd w B q.na q.nl
  hn : q.nl.length ≤ q.nc ∧ q.nc ≤ 9223372036854775807
  he : okI q.e
  hm : okI q.n
  hc : okI q.c
  hd : okI q.d
  rp : Rd w B q.pa q.pl
  hp : q.pl.length ≤ q.pc ∧ q.pc ≤ 9223372036854775807
  rv : Rd w B q.va q.vl
  hv : q.vl.length ≤ q.vc ∧ q.vc ≤ 9223372036854775807
theorem AskV.Ok.below {w w' : World} {B : Nat} {q : AskV} (h : q.Ok w B) (hb : Below B w w') : q.Ok w' B := ⟨h.rn.below hb, h.hn, h.he, h.hm, h.hc, h.hd, h.rp.below hb, h.hp, h.rv.below hb, h.hv⟩
theorem cellsDt_ : Tryd.prog.cellsOf 33 = 2 := by kernel_rfl
theorem cellsBo_ : Tryd.prog.cellsOf 4 = 1 := by kernel_rfl
theorem cells_boolX {H : Type} {enc : TypeId × Value → H} {P : Program} {t : TypeId} {w : World} {fuel : Nat} {sp : Nat → Bool} {held : Bool} {cs : List Value} {d : DataW H × List MemPlace}
    (ht : P.underlying t = some .bool) (hf : DataW.trod enc P w 0 sp held fuel t cs = some d) : ∃ b, cs = [.bool b] := by
  obtain ⟨b, e, _⟩ := DataW.trod_bool ht hf
  exact ⟨b, e⟩
theorem cells_dotX {H : Type} {enc : TypeId × Value → H} {w : World} {fuel : Nat} {sp : Nat → Bool} {held : Bool} {cs : List Value} {d : DataW H × List MemPlace} (hlc : cs.length = 2)
    (hf : DataW.trod enc Tryd.prog w 0 sp held fuel 33 cs = some d) : ∃ x y, cs = [.int .i64 x, .int .i64 y] ∧ okI x ∧ okI y := by
  obtain ⟨xs, n, _, _, hl, hlen, hg⟩ := DataW.trod_struct Tryd.underlying33 hf
  match cs, hlc with
  | [k0, k1], _ =>
  match xs, hlen with
  | [y0, y1], _ =>
    have g0 := hg 0 _ rfl
    have g1 := hg 1 _ rfl
    simp only [cellsI_, List.drop_succ_cons, List.drop_zero, List.take_succ_cons, List.take_zero, List.getElem?_cons_succ, List.getElem?_cons_zero] at g0 g1
    obtain ⟨z0, e0, o0⟩ := cells_intV Tryd.underlying3 g0
    obtain ⟨z1, e1, o1⟩ := cells_intV Tryd.underlying3 g1
    simp [cellsI_] at e0 e1
    exact ⟨z0, z1, by rw [e0, e1], o0, o1⟩
end Go.Proofs.YtmomnfhoeabdnaaDoor

namespace Go.Proofs.YtmomnfhoeabdnaaDoor
set_option maxRecDepth 100000
open Go.ChangeShapes Go.WideShapes Go.ChangeAt Go.RowKit
set_option linter.unusedVariables false
set_option linter.unusedSimpArgs false

theorem set_minex {w W W' : World} {id : Bool} {v sp nm kn : Nat} {K : List UInt8} {N : List (List UInt8)} {L : List SealV} {F : List Nat} {k : Nat} (h : MineX w id v sp nm kn K N L F W) (hU : Untouched [k] W W') (hk : k ∉ F) (hw : w.heap.size ≤ k) : MineX w id v sp nm kn K N L F W' :=
  ⟨(VS.foot id v sp nm kn K N L).keep h.vs hU (fun j hj hm => by rw [List.mem_singleton.1 hm] at hj; exact hk hj), h.own, h.below.trans (hU.below (fun j hj => by rw [List.mem_singleton.1 hj]; exact hw) h.below.size)⟩
theorem eRow_hiSet (K : List UInt8) (hK : K.length = 32) (h : HeadV) (sa : Option Addr) (sn sc j : Nat) (v : Value) : (eRow K h sa sn sc).setIfInBounds (32 + j) v = ((K.map fun b => Value.int .u8 (b.toNat : Int)) ++ ([.int .i64 h.e, .int .i64 h.n, .int .i64 h.c, .int .i64 h.d, .slice h.pa h.pl.length h.pc, .slice sa sn sc] : List Value).set j v).toArray := by
  unfold eRow
  rw [List.setIfInBounds_toArray, List.set_append_right _ _ (by rw [List.length_map, hK]; omega), List.length_map, hK, Nat.add_sub_cancel_left]
theorem eRow_e (K : List UInt8) (hK : K.length = 32) (h : HeadV) (sa : Option Addr) (sn sc : Nat) (z : Int) : (eRow K h sa sn sc).setIfInBounds 32 (.int .i64 z) = eRow K { h with e := z } sa sn sc := eRow_hiSet K hK h sa sn sc 0 _
theorem eRow_n (K : List UInt8) (hK : K.length = 32) (h : HeadV) (sa : Option Addr) (sn sc : Nat) (z : Int) : (eRow K h sa sn sc).setIfInBounds 33 (.int .i64 z) = eRow K { h with n := z } sa sn sc := eRow_hiSet K hK h sa sn sc 1 _
theorem eRow_c (K : List UInt8) (hK : K.length = 32) (h : HeadV) (sa : Option Addr) (sn sc : Nat) (z : Int) : (eRow K h sa sn sc).setIfInBounds 34 (.int .i64 z) = eRow K { h with c := z } sa sn sc := eRow_hiSet K hK h sa sn sc 2 _
theorem eRow_d (K : List UInt8) (hK : K.length = 32) (h : HeadV) (sa : Option Addr) (sn sc : Nat) (z : Int) : (eRow K h sa sn sc).setIfInBounds 35 (.int .i64 z) = eRow K { h with d := z } sa sn sc := eRow_hiSet K hK h sa sn sc 3 _
theorem eRow_k (K : List UInt8) (hK : K.length = 32) (h : HeadV) (sa : Option Addr) (sn sc j : Nat) (hj : j < 32) (y : UInt8) : (eRow K h sa sn sc).setIfInBounds j (.int .u8 (y.toNat : Int)) = eRow (K.set j y) h sa sn sc := by
  unfold eRow
  rw [List.setIfInBounds_toArray, List.set_append_left _ _ (by rw [List.length_map, hK]; exact hj), List.map_set]
theorem env_d {w : World} {g : Nat} {K : List UInt8} (hK : K.length = 32) {h : HeadV} {sa : Option Addr} {sn sc : Nat} (k : Bk w g 38 (eRow K h sa sn sc)) : w.cell? ⟨g, 35, none⟩ = some (.int .i64 h.d) := (k.cell 35).trans (eRow_hi K hK h sa sn sc 3)
theorem env_k {w : World} {g : Nat} {K : List UInt8} (hK : K.length = 32) {h : HeadV} {sa : Option Addr} {sn sc : Nat} (k : Bk w g 38 (eRow K h sa sn sc)) (j : Nat) (hj : j < 32) : w.cell? ⟨g, j, none⟩ = some (.int .u8 ((K.getD j 0).toNat : Int)) :=
  ((k.cell j).trans (eRow_lo K hK h sa sn sc j hj)).trans (rowOf_at K j (by omega))
/-- What it is bound to, with another number, another past. -/
theorem boundB_d (K : List UInt8) (h : HeadV) (z : Int) (h1 : h.d.toNat < 256 ^ 8) (h2 : z.toNat < 256 ^ 8) (hne : h.d.toNat ≠ z.toNat) : boundB K h ≠ boundB K { h with d := z } := by
  intro e
  unfold boundB at e
  simp only [List.append_assoc] at e
  have e1 := List.append_cancel_left (List.append_cancel_left (List.append_cancel_left (List.append_cancel_left e)))
  have e2 := congrArg beN (List.append_inj e1 (by rw [highB_len, highB_len])).1
  rw [beN_highB, beN_highB, Nat.mod_eq_of_lt h1, Nat.mod_eq_of_lt h2] at e2
  exact hne e2
theorem boundB_p (K : List UInt8) (h : HeadV) (l : List UInt8) (hl : l.length = h.pl.length) (hne : h.pl ≠ l) : boundB K h ≠ boundB K { h with pl := l } := by
  intro e
  unfold boundB at e
  simp only [List.append_assoc, hl] at e
  exact hne (List.append_cancel_left (List.append_cancel_left (List.append_cancel_left (List.append_cancel_left (List.append_cancel_left (List.append_cancel_left e))))))
/-- It sealed once, something else. -/
theorem oT_one (K : List UInt8) (e c n : Nat) (x s : List UInt8) (t : SealV) (h : ¬ (t.e = e ∧ t.c = c ∧ t.n = n ∧ t.x = x ∧ t.s = s)) : oT true K [t] e c n x s = none := by
  unfold oT
  have hh : hitS e c n x s t = false := by
    cases hq : hitS e c n x s t with
    | false => rfl
    | true => exact absurd (hitS_iff.1 hq) h
  simp [hh]
theorem ownT_mark (w : World) (l : List UInt8) (n : Nat) (hn : l.length = n) (hm : n ≤ maxLen) : OwnT (w.alloc (.cells (rowOf l) 5 (n, n + 1))) w.heap.size (.slice (some ⟨w.heap.size, 0, none⟩) n n) l := by
  subst hn
  exact .inr ⟨w.heap.size, l.length, rowOf l, _, rfl, Nat.le_refl _, heap_alloc_new w _, fun j hj hc => by rw [rowOf_size] at hj; omega, Nat.le_refl _, hm, rowOf_size l, by rw [List.take_of_length_le (by simp [rowOf])]⟩
theorem OwnT.atx {w w1 : World} {base : Nat} {v : Value} {l : List UInt8} (h : OwnT w base v l) (hk : ∀ k, v.ownBlock = some k → w1.heap[k]? = w.heap[k]?) : OwnT w1 base v l := by
  rcases h with h | ⟨g, cap, cur, fz, rfl, hb, hgg, rest⟩
  · exact .inl h
  · exact .inr ⟨g, cap, cur, fz, rfl, hb, (hk g rfl).trans hgg, rest⟩
theorem own_sing {g n c k : Nat} (h : (Value.slice (some ⟨g, 0, none⟩) n c).ownBlock = some k) : k ∈ [g] := by
  injection h with h
  subst h
  exact List.mem_singleton.2 rfl
theorem sealed_two (K x b : List UInt8) : sL true K [] 2 4 3 x b = [⟨2, 4, 3, x, drawB K 1 1 (b.length + 8), b⟩] ∧ sB true K [] 2 4 3 x b = drawB K 1 1 (b.length + 8) := ⟨rfl, rfl⟩
def hB (g : Nat) : HeadV := ⟨2, 3, 4, 5, some ⟨g, 0, none⟩, [112, 97, 115, 116], 4⟩
theorem hB_ok (g : Nat) : (hB g).Ok := show ((1 : Int) ≤ 2 ∧ (2 : Int) ≤ 1048576) ∧ ((1 : Int) ≤ 3 ∧ (3 : Int) ≤ 4611686018427387904) ∧ ((1 : Int) ≤ 4 ∧ (4 : Int) ≤ 16) ∧ ((1 : Int) ≤ 5 ∧ (5 : Int) ≤ 1099511627776) ∧ 4 ≤ 4096 by decide
theorem hB_row (g : Nat) : (hB g).row = ((((hd0.row.setIfInBounds 0 (.int .i64 2)).setIfInBounds 1 (.int .i64 3)).setIfInBounds 2 (.int .i64 4)).setIfInBounds 3 (.int .i64 5)).setIfInBounds 4 (.slice (some ⟨g, 0, none⟩) 4 4) := rfl
theorem built_hB (g : Nat) : Tryd.prog.built 35 [(0, .int .i64 2), (1, .int .i64 3), (2, .agg #[.int .i64 4, .int .i64 5]), (3, .slice (some ⟨g, 0, none⟩) 4 4)] = some (hB g).row := by kernel_rfl
/-- One store, the last of a drawn region's operations, behind operation r. -/
def StJ (W0 W1 : World) (r s : Nat) (D : Nat → Bool) (W : World) : Prop := (D s = false ∧ W = W0) ∨ (D s = true ∧ D r = true ∧ W = W1)
theorem StJ.same {W0 W1 W : World} {r s : Nat} {D : Nat → Bool} (h : StJ W0 W1 r s D W) (i : Nat) (hi : s ≠ i) : StJ W0 W1 r s (fun j => decide (j = i) || D j) W := by
  rcases h with ⟨a, b⟩ | ⟨a, b, c⟩
  · exact .inl ⟨by simp [a, hi], b⟩
  · exact .inr ⟨by simp [a], by simp [b], c⟩
theorem StJ.old {W0 W1 W : World} {r s : Nat} {D : Nat → Bool} (h : StJ W0 W1 r s D W) (hr : D r = false) : W = W0 := by
  rcases h with ⟨_, b⟩ | ⟨_, b, _⟩
  · exact b
  · rw [hr] at b; cases b
theorem StJ.ahead {W0 W1 W : World} {r s : Nat} {D : Nat → Bool} (h : StJ W0 W1 r s D W) (hs : D s = false) : W = W0 := by
  rcases h with ⟨_, b⟩ | ⟨b, _, _⟩
  · exact b
  · rw [hs] at b; cases b
theorem StJ.store {W0 W1 : World} {r s : Nat} {D : Nat → Bool} (hr : D r = true) : StJ W0 W1 r s (fun j => decide (j = s) || D j) W1 := .inr ⟨by simp, by simp [hr], rfl⟩
theorem StJ.last {W0 W1 W : World} {r s : Nat} {D : Nat → Bool} (h : StJ W0 W1 r s D W) (hs : D s = true) : W = W1 := by
  rcases h with ⟨b, _⟩ | ⟨_, _, c⟩
  · rw [hs] at b; cases b
  · exact c
theorem StJ.two {W0 W1 W : World} {r s : Nat} {D : Nat → Bool} (h : StJ W0 W1 r s D W) : W = W0 ∨ W = W1 := h.elim (fun x => .inl x.2) (fun x => .inr x.2.2)
end Go.Proofs.YtmomnfhoeabdnaaDoor

namespace Go.Proofs.YtmomnfhoeabdnaaDoor
set_option maxRecDepth 100000
open Go.ChangeShapes Go.WideShapes Go.ChangeAt Go.RowKit
set_option linter.unusedVariables false
set_option linter.unusedSimpArgs false

theorem highx_cons (n x : Nat) : highB (n + 1) x = UInt8.ofNat (x / 256 ^ n % 256) :: highB n x := by
  rw [highB, lowB_succ, List.reverse_append]
  rfl
theorem highx_add (b n y : Nat) : highB n (b * 256 ^ n + y) = highB n y := by
  unfold highB lowB
  congr 1
  apply List.map_congr_left
  intro i hi
  have hi := List.mem_range.1 hi
  obtain ⟨d, rfl⟩ : ∃ d, n = i + 1 + d := ⟨n - i - 1, by omega⟩
  have e : b * 256 ^ (i + 1 + d) + y = 256 ^ i * (256 * (256 ^ d * b)) + y := by
    rw [Nat.pow_add, Nat.pow_succ]
    congr 1
    rw [Nat.mul_comm b, Nat.mul_assoc, Nat.mul_assoc]
  rw [e, Nat.mul_add_div (Nat.pow_pos (by omega)), Nat.mul_add_mod]
theorem highx_beN : ∀ l : List UInt8, highB l.length (beN l) = l
  | [] => rfl
  | b :: l => by
    have ih := highx_beN l
    have hlt := beN_lt l
    rw [List.length_cons, beN_cons, highx_cons, highx_add, ih]
    congr 1
    have hb := b.toNat_lt
    rw [Nat.mul_comm, Nat.mul_add_div (Nat.pow_pos (by omega)), Nat.div_eq_of_lt hlt, Nat.add_zero, Nat.mod_eq_of_lt (by omega)]
    simp
/-- A number that is taken: what stood there. -/
theorem numSx_ok {size : Nat} {most : Int} {l r : List UInt8} {e v : Int} (h : numS size most l e = (v, r, 0)) : e = 0 ∧ l = highB size v.toNat ++ r ∧ 0 ≤ v ∧ v ≤ most ∧ v.toNat < 256 ^ size := by
  unfold numS at h
  split at h
  · rename_i h1
    injection h with _ h
    injection h with _ h
    exact absurd h h1
  · rename_i h1
    split at h
    · injection h with _ h
      injection h with _ h
      cases h
    · rename_i h2
      split at h
      · injection h with _ h
        injection h with _ h
        cases h
      · rename_i h3
        injection h with h4 h
        injection h with h5 h
        subst h4 h5
        have hl : (l.take size).length = size := by rw [List.length_take]; omega
        have hb := highx_beN (l.take size)
        have hlt := beN_lt (l.take size)
        rw [hl] at hb hlt
        refine ⟨by omega, ?_, by omega, by omega, by rw [Int.toNat_natCast]; exact hlt⟩
        rw [Int.toNat_natCast, hb, List.take_append_drop]
theorem numSx_put {size : Nat} {most : Int} {v : Int} (h0 : 0 ≤ v) (h1 : v ≤ most) (h2 : v.toNat < 256 ^ size) (r : List UInt8) : numS size most (highB size v.toNat ++ r) 0 = (v, r, 0) := by
  have hl := highB_len size v.toNat
  have ht : (highB size v.toNat ++ r).take size = highB size v.toNat := List.take_left' hl
  have hb : beN (highB size v.toNat) = v.toNat := by rw [beN_highB]; exact Nat.mod_eq_of_lt h2
  rw [numS_yes (by rw [List.length_append, hl]; omega) (by rw [ht, hb]; omega), ht, hb, List.drop_left' hl]
  congr 1
  omega
theorem fixSx_ok {n : Int} {l s r : List UInt8} {e : Int} (h0 : 0 ≤ n) (h : fixS n l e = (s, r, 0)) : e = 0 ∧ l = s ++ r ∧ (s.length : Int) = n := by
  unfold fixS at h
  split at h
  · rename_i h1
    injection h with h2 h
    injection h with h3 h
    subst h2 h3 h
    rcases h1 with h1 | h1
    · exact absurd rfl h1
    · exact ⟨rfl, rfl, by simp only [List.length_nil]; omega⟩
  · rename_i h1
    split at h
    · injection h with _ h
      injection h with _ h
      cases h
    · rename_i h2
      injection h with h3 h
      injection h with h4 h
      subst h3 h4
      refine ⟨by omega, (List.take_append_drop _ _).symm, ?_⟩
      rw [List.length_take]
      omega
theorem fixSx_put (s r : List UInt8) : fixS (s.length : Int) (s ++ r) 0 = (s, r, 0) := by
  by_cases h : s = []
  · subst h
    exact fixS_off (.inr (by simp))
  · have : 0 < s.length := List.length_pos_iff.2 h
    rw [fixS_yes this (by rw [List.length_append]; omega), List.take_left, List.drop_left]
theorem bytSx_ok {most : Int} {l s r : List UInt8} {e : Int} (h : bytS most l e = (s, r, 0)) : e = 0 ∧ l = highB 4 s.length ++ s ++ r ∧ (s.length : Int) ≤ most := by
  unfold bytS at h
  obtain ⟨v, l2, e2, hS⟩ : ∃ v l2 e2, numS 4 most l e = (v, l2, e2) := ⟨_, _, _, rfl⟩
  rw [hS] at h
  have hb : 0 ≤ v := by
    have : v = (numS 4 most l e).1 := by rw [hS]
    rw [this]
    unfold numS
    repeat' split
    all_goals (simp only; omega)
  obtain ⟨rfl, rfl, hl⟩ := fixSx_ok (by exact hb) h
  obtain ⟨rfl, rfl, h1, h2, h3⟩ := numSx_ok hS
  exact ⟨rfl, by rw [show v.toNat = s.length by omega, List.append_assoc], by omega⟩
theorem bytSx_put {most : Int} {s : List UInt8} (h1 : (s.length : Int) ≤ most) (h2 : s.length < 4294967296) (r : List UInt8) : bytS most (highB 4 s.length ++ s ++ r) 0 = (s, r, 0) := by
  unfold bytS
  have e := numSx_put (size := 4) (most := most) (v := (s.length : Int)) (by omega) h1 (by rw [Int.toNat_natCast]; exact Nat.lt_of_lt_of_le h2 (by decide)) (s ++ r)
  rw [Int.toNat_natCast] at e
  rw [List.append_assoc, e]
  exact fixSx_put s r

/-- An envelope's bytes. -/
def writeB (K : List UInt8) (h : HeadV) (sl : List UInt8) : List UInt8 := boundB K h ++ highB 4 sl.length ++ sl
theorem writeB_len (K : List UInt8) (hK : K.length = 32) (h : HeadV) (sl : List UInt8) : (writeB K h sl).length = 72 + h.pl.length + sl.length := by
  unfold writeB
  rw [List.length_append, List.length_append, boundB_len K hK h, highB_len]
  omega
/-- What is read, one part behind the other. -/
structure RdRel (m1 m2 m3 m4 : Int) (l K : List UInt8) (e n c d : Int) (pl sl r : List UInt8) (er : Int) : Prop where
  go : ∃ l1 l2 l3 l4 l5 l6 e1 e2 e3 e4 e5 e6, fixS 32 l 0 = (K, l1, e1) ∧ numS 8 m1 l1 e1 = (e, l2, e2) ∧ numS 8 m2 l2 e2 = (n, l3, e3) ∧ numS 8 m3 l3 e3 = (c, l4, e4) ∧ numS 8 m4 l4 e4 = (d, l5, e5) ∧ bytS 4096 l5 e5 = (pl, l6, e6) ∧ bytS 8192 l6 e6 = (sl, r, er)
/-- The bytes are those of an envelope. -/
def EvOk (l K : List UInt8) (h : HeadV) (sl : List UInt8) : Prop := K.length = 32 ∧ EnvOk h sl.length ∧ l = writeB K h sl
theorem endS_ok {r : List UInt8} {er : Int} (h : endS r er = 0) : er = 0 ∧ r = [] := by
  unfold endS at h
  split at h
  · rename_i h1
    exact absurd h h1
  · rename_i h1
    split at h
    · cases h
    · rename_i h2
      exact ⟨by omega, List.eq_nil_of_length_eq_zero (by omega)⟩
theorem RdRel.ok {m1 m2 m3 m4 : Int} {l K : List UInt8} {e n c d : Int} {pl sl r : List UInt8} {er : Int} (h : RdRel m1 m2 m3 m4 l K e n c d pl sl r er) (he : endS r er = 0) (A : Option Addr) (pc : Nat) (hok : EnvOk ⟨e, n, c, d, A, pl, pc⟩ sl.length) : EvOk l K ⟨e, n, c, d, A, pl, pc⟩ sl := by
  obtain ⟨l1, l2, l3, l4, l5, l6, e1, e2, e3, e4, e5, e6, h1, h2, h3, h4, h5, h6, h7⟩ := h.go
  obtain ⟨rfl, rfl⟩ := endS_ok he
  obtain ⟨rfl, rfl, _⟩ := bytSx_ok h7
  obtain ⟨rfl, rfl, _⟩ := bytSx_ok h6
  obtain ⟨rfl, rfl, _⟩ := numSx_ok h5
  obtain ⟨rfl, rfl, _⟩ := numSx_ok h4
  obtain ⟨rfl, rfl, _⟩ := numSx_ok h3
  obtain ⟨rfl, rfl, _⟩ := numSx_ok h2
  obtain ⟨_, rfl, hK⟩ := fixSx_ok (by omega) h1
  refine ⟨by omega, hok, ?_⟩
  unfold writeB boundB
  simp only [List.append_assoc, List.append_nil]
theorem RdRel.put {m1 m2 m3 m4 : Int} {l K : List UInt8} {e n c d : Int} {pl sl r : List UInt8} {er : Int} (h : RdRel m1 m2 m3 m4 l K e n c d pl sl r er) (b1 : 1048576 ≤ m1) (b2 : 4611686018427387904 ≤ m2) (b3 : 16 ≤ m3) (b4 : 1099511627776 ≤ m4) {K' : List UInt8} {h' : HeadV} {sl' : List UInt8} (hv : EvOk l K' h' sl') :
    K = K' ∧ e = h'.e ∧ n = h'.n ∧ c = h'.c ∧ d = h'.d ∧ pl = h'.pl ∧ sl = sl' ∧ r = [] ∧ er = 0 := by
  obtain ⟨l1, l2, l3, l4, l5, l6, e1, e2, e3, e4, e5, e6, h1, h2, h3, h4, h5, h6, h7⟩ := h.go
  obtain ⟨hK, ⟨⟨⟨x1, x2⟩, ⟨x3, x4⟩, ⟨x5, x6⟩, ⟨x7, x8⟩, x9⟩, y1, y2⟩, rfl⟩ := hv
  unfold writeB boundB at h1
  simp only [List.append_assoc] at h1
  have p1 := fixSx_put K' (highB 8 h'.e.toNat ++ (highB 8 h'.n.toNat ++ (highB 8 h'.c.toNat ++ (highB 8 h'.d.toNat ++ (highB 4 h'.pl.length ++ (h'.pl ++ (highB 4 sl'.length ++ sl')))))))
  rw [hK] at p1
  obtain ⟨rfl, rfl, rfl⟩ : K' = K ∧ _ = l1 ∧ (0 : Int) = e1 := by
    have := p1.symm.trans h1
    injection this with a b
    injection b with b c
    exact ⟨a, b, c⟩
  have q2 := (numSx_put (size := 8) (most := m1) (v := h'.e) (by omega) (by omega) (Nat.lt_of_lt_of_le (show h'.e.toNat < 4294967296 by omega) (by decide)) _).symm.trans h2
  injection q2 with a2 q2
  injection q2 with b2 c2
  subst a2 b2 c2
  have q3 := (numSx_put (size := 8) (most := m2) (v := h'.n) (by omega) (by omega) (Nat.lt_of_lt_of_le (show h'.n.toNat < 9223372036854775808 by omega) (by decide)) _).symm.trans h3
  injection q3 with a3 q3
  injection q3 with b3 c3
  subst a3 b3 c3
  have q4 := (numSx_put (size := 8) (most := m3) (v := h'.c) (by omega) (by omega) (Nat.lt_of_lt_of_le (show h'.c.toNat < 9223372036854775808 by omega) (by decide)) _).symm.trans h4
  injection q4 with a4 q4
  injection q4 with b4 c4
  subst a4 b4 c4
  have q5 := (numSx_put (size := 8) (most := m4) (v := h'.d) (by omega) (by omega) (Nat.lt_of_lt_of_le (show h'.d.toNat < 9223372036854775808 by omega) (by decide)) _).symm.trans h5
  injection q5 with a5 q5
  injection q5 with b5 c5
  subst a5 b5 c5
  have q6 := bytSx_put (most := 4096) (s := h'.pl) (by omega) (by omega) (highB 4 sl'.length ++ sl')
  rw [List.append_assoc] at q6
  have q6 := q6.symm.trans h6
  injection q6 with a6 q6
  injection q6 with b6 c6
  subst a6 b6 c6
  have q7 := bytSx_put (most := 8192) (s := sl') (by omega) (by omega) []
  rw [List.append_nil] at q7
  have q7 := q7.symm.trans h7
  injection q7 with a7 q7
  injection q7 with b7 c7
  subst a7 b7 c7
  exact ⟨rfl, rfl, rfl, rfl, rfl, rfl, rfl, rfl, rfl⟩
end Go.Proofs.YtmomnfhoeabdnaaDoor

namespace Go.Proofs.YtmomnfhoeabdnaaDoor
set_option maxRecDepth 100000
open Go.ChangeShapes Go.WideShapes Go.ChangeAt Go.RowKit
set_option linter.unusedVariables false
set_option linter.unusedSimpArgs false

theorem hidxn_ {p : Prop} (h : p) : Hid p := h
/-- An answer that stays: the Out is at its end. -/
def FinE (b g : Nat) (P : List UInt8) (v : Value) (W : World) : Prop := Own8 W b v P ∧ W.cell? ⟨g, 1, none⟩ = some (.int .i64 (P.length : Int))
theorem FinE.no {b g : Nat} {P l : List UInt8} {v : Value} {W : World} {bad : Bool} {F : List Nat} (hO : OutF W g l bad F) (hne : l.length ≠ P.length) (h : FinE b g P v W) : False := by
  obtain ⟨_, all, hb, _⟩ := hO
  have h1 := hb.cell 1
  rw [h.2] at h1
  simp at h1
  omega
theorem FinE.early {b g : Nat} {P : List UInt8} {v : Value} {W : World} (hP : 0 < P.length) (hs : W.heap.size = b) (h : FinE b g P v W) : False := by
  obtain ⟨A, c, rfl, hr, hbd⟩ := h.1.form
  obtain ⟨k, off, rfl, _, _⟩ := hr (by omega)
  have := hbd k rfl
  omega
def WrS (b g : Nat) (K : List UInt8) (h : HeadV) (s : List UInt8) : Nat → World → Prop
  | 0, W => W.heap.size = b
  | 1, W => ∃ F, (∀ k ∈ F, b ≤ k) ∧ OutF W g (boundB K h) false F
  | 2, W => ∃ F, (∀ k ∈ F, b ≤ k) ∧ OutF W g (writeB K h s) false F
  | _, _ => True
def WrR (gE g b n : Nat) (K : List UInt8) (h : HeadV) (sa : Option Addr) (s : List UInt8) (sc : Nat) : Nat → Value → World → Prop
  | 0, v, _ => v = .pointer (some ⟨gE, 0, none⟩)
  | 1, v, _ => v = .agg (rowOf K)
  | 2, v, _ => v = .pointer (some ⟨gE, 32, none⟩)
  | 3, v, _ => v = .agg h.row
  | 4, v, _ => v = .pointer (some ⟨g, 0, none⟩)
  | 5, v, _ => v = .pointer (some ⟨gE, 37, none⟩)
  | 6, v, _ => v = .slice sa s.length sc
  | 7, v, _ => v = .pointer (some ⟨g, 0, none⟩)
  | 8, v, w => ∃ A c9, v = .tuple #[.slice A n c9, .int .i64 0] ∧ FinE b g (writeB K h s) (.slice A n c9) w
  | 9, v, w => ∃ A c9, v = .slice A n c9 ∧ FinE b g (writeB K h s) (.slice A n c9) w
  | 10, v, _ => v = .int .i64 0
  | 11, v, w => ∃ A c9, v = .slice A n c9 ∧ FinE b g (writeB K h s) (.slice A n c9) w
  | 12, v, _ => v = .int .i64 0
  | _, _, _ => True
theorem WrR.keep {gE g b n j : Nat} {K : List UInt8} {h : HeadV} {sa : Option Addr} {s : List UInt8} {sc : Nat} {v : Value} {W W' : World} (hT : ∀ v, FinE b g (writeB K h s) v W → FinE b g (writeB K h s) v W') (hh : WrR gE g b n K h sa s sc j v W) : WrR gE g b n K h sa s sc j v W' := by
  unfold WrR at hh ⊢
  split at hh <;> first
    | (obtain ⟨A, cc, e, hF⟩ := hh; exact ⟨A, cc, e, hT _ hF⟩)
    | exact hh
    | trivial

set_option maxRecDepth 100000 in
set_option maxHeartbeats 16000000 in
theorem writeE_any (w : World) (K : List UInt8) (hK : K.length = 32) (h : HeadV) (sa : Option Addr) (sc : Nat) (s : List UInt8) (hok : EnvOk h s.length) (hp : Rd w w.heap.size h.pa h.pl) (hr : Rd w w.heap.size sa s) :
    Calls Tryd.prog 8 #[.agg (eRow K h sa s.length sc)] w fun e w' => ∃ A c, e = .returned (.tuple #[.slice A (writeB K h s).length c, .int .i64 0]) ∧ Own8 w' w.heap.size (.slice A (writeB K h s).length c) (writeB K h s) ∧ Below w.heap.size w w' := by
  obtain ⟨gE, hgE⟩ : ∃ g, w.heap.size = g := ⟨_, rfl⟩
  obtain ⟨w1, hw1⟩ : ∃ W, w.alloc (.cells (eRow K h sa s.length sc) 38) = W := ⟨_, rfl⟩
  have X1 := hidxn_ (show Below w.heap.size w w1 by rw [← hw1]; exact (Below.refl _ _).alloc (Nat.le_refl _) _)
  have K1 := hidxn_ (show Bk w1 gE 38 (eRow K h sa s.length sc) by rw [← hw1, ← hgE]; exact Bk.new w _ _)
  have RP := hidxn_ ((hp.below X1.out).more X1.out.size)
  have RQ := hidxn_ ((hr.below X1.out).more X1.out.size)
  have KL := hidxn_ hK
  have OK := hidxn_ hok
  have ci := isEnv_any w1 K hK h sa s.length sc
  rw [decide_eq_true hok] at ci
  obtain ⟨n, hn⟩ : ∃ n, (writeB K h s).length = n := ⟨_, rfl⟩
  have HN := hidxn_ hn
  have HNB := hidxn_ (show n ≤ 20000 ∧ (boundB K h).length = 68 + h.pl.length ∧ h.pl.length ≤ 4096 ∧ s.length ≤ 8192 ∧ n = 72 + h.pl.length + s.length by
    have e1 := writeB_len K hK h s
    have e2 := boundB_len K hK h
    have e3 := hok.1.2.2.2.2
    have e4 := hok.2.2
    omega)
  have HGE := hidxn_ hgE
  rw [hn]
  clear hn hK hok hp hr
  go_enter Tryd.func8, Tryd.ntmps8
  go_upto_region 3 with (first
    | (refine wpList_load_rowW (by go_simp) 38 (.tmp 1) rfl gE rfl 38 (eRow K h sa s.length sc) K1.out _ Tryd.underlying38 rfl (iE _ KL.out _ _ _ _) ?_)
    | (go_at_call 19; ((with_reducible refine ci.mono ?_); clear ci; rintro e w2 ⟨rfl, hB⟩; have X2 := hidxn_ (X1.out.trans (hB.mono X1.out.size)); have K2 := hidxn_ (K1.out.below hB K1.out.lt); have RP2 := hidxn_ ((RP.out.below hB).more hB.size); have RQ2 := hidxn_ ((RQ.out.below hB).more hB.size); clear hB)))
  rename_i K9 hK9
  clear K1 X1 RP RQ hw1 hgE
  have LT := hidxn_ K2.out.lt
  have KK := hidxn_ (show ∀ W, Below w2.heap.size w2 W → Bk W gE 38 (eRow K h sa s.length sc) from fun W hW => K2.out.below hW K2.out.lt)
  obtain ⟨g, hg⟩ : ∃ g, w2.heap.size + 2 = g := ⟨_, rfl⟩
  have HG := hidxn_ hg
  clear hg
  refine region_byJF [7, 8, 9, 10, 11, 12, 13, 14, 15, 16, 17, 2, 3] (fun W => Below w2.heap.size w2 W) (fun W W2 => ∀ v, FinE w2.heap.size g (writeB K h s) v W → FinE w2.heap.size g (writeB K h s) v W2) (WrR gE g w2.heap.size n K h sa s sc) (fun D _ W => ChJ [4, 7, 8] (WrS w2.heap.size g K h s) D W) (by kernel_rfl) (by kernel_rfl) (by kernel_rfl) (by kernel_rfl) (fun j v w w' hT hr => ?_) (fun j v w hlt hj _ => ?_) ((Below.refl _ _).drew) ?_ (ChJ.start rfl) ?_
  · exact WrR.keep hT hr
  · rcases j with _ | _ | _ | _ | _ | _ | _ | _ | _ | _ | _ | _ | _ | j
    all_goals first
      | (exfalso; simp [dstOf] at hj; done)
      | trivial
  · refine ⟨fun D a9 W hC hd hsz hf hv hJ hL hW K9 hK => ?_, fun D a9 W hC hd hsz hf hv hJ hL hW K9 hK => ?_, fun D a9 W hC hd hsz hf hv hJ hL hW K9 hK => ?_, fun D a9 W hC hd hsz hf hv hJ hL hW K9 hK => ?_, fun D a9 W hC hd hsz hf hv hJ hL hW K9 hK => ?_, fun D a9 W hC hd hsz hf hv hJ hL hW K9 hK => ?_, fun D a9 W hC hd hsz hf hv hJ hL hW K9 hK => ?_, fun D a9 W hC hd hsz hf hv hJ hL hW K9 hK => ?_, fun D a9 W hC hd hsz hf hv hJ hL hW K9 hK => ?_, fun D a9 W hC hd hsz hf hv hJ hL hW K9 hK => ?_, fun D a9 W hC hd hsz hf hv hJ hL hW K9 hK => ?_, fun D a9 W hC hd hsz hf hv hJ hL hW K9 hK => ?_, fun D a9 W hC hd hsz hf hv hJ hL hW K9 hK => ?_, trivial⟩
    · clear hsz
      have e1 := slot_of (a := a9) (s := 1) (v := .pointer (some ⟨gE, 0, none⟩)) (hf 1 (by kernel_rfl))
      refine step_run (wanted_none rfl) (v := .pointer (some ⟨gE, 0, none⟩)) (w' := W) ?_ (hK _ _ hC (fun v hh => hh) rfl (hJ.same 0 (by decide)))
      go_simp
    · clear hsz
      have e1 := slot_of (a := a9) (s := 7) (v := .pointer (some ⟨gE, 0, none⟩)) (hv 0 (by kernel_rfl))
      have hk := env_key KL.out (KK.out W hC)
      refine step_load_sub (wanted_none rfl) 36 (.tmp 7) rfl gE 0 (eval_of (hv 0 (by kernel_rfl))) (rowOf K) hk _ Tryd.underlying36 rfl (iBl K KL.out) (hK _ _ hC (fun v hh => hh) rfl (hJ.same 1 (by decide)))
    · clear hsz
      have e1 := slot_of (a := a9) (s := 1) (v := .pointer (some ⟨gE, 0, none⟩)) (hf 1 (by kernel_rfl))
      refine step_run (wanted_none rfl) (v := .pointer (some ⟨gE, 32, none⟩)) (w' := W) ?_ (hK _ _ hC (fun v hh => hh) rfl (hJ.same 2 (by decide)))
      go_simp
    · clear hsz
      have hk := env_head KL.out (KK.out W hC)
      refine step_load_sub (wanted_none rfl) 35 (.tmp 9) rfl gE 32 (eval_of (hv 2 (by kernel_rfl))) h.row hk _ Tryd.underlying35 rfl (iHead h) (hK _ _ hC (fun v hh => hh) rfl (hJ.same 3 (by decide)))
    · clear hsz
      have e1 := slot_of (a := a9) (s := 8) (v := .agg (rowOf K)) (hv 1 (by kernel_rfl))
      have e2 := slot_of (a := a9) (s := 10) (v := .agg h.row) (hv 3 (by kernel_rfl))
      obtain ⟨hS, hd⟩ := hJ.at_ 0 (by decide) hL (fun j hj e => by omega)
      have hS2 : W.heap.size = w2.heap.size := hS
      have cc := bound_at W K KL.out h OK.out.1 ((RP2.out.below hC).more hC.size)
      refine step_callx 15 #[.agg (rowOf K), .agg h.row] (wanted_none rfl) (w' := W) ?_ (cc.mono fun e W2 hh => ?_)
      · go_simp
      · obtain ⟨rfl, F2, hO2, hF2, hB2⟩ := hh
        rw [hS2, HG.out] at hO2
        have e9 : Value.pointer (some ⟨W.heap.size + 2, 0, none⟩) = .pointer (some ⟨g, 0, none⟩) := by rw [hS2, HG.out]
        exact ⟨_, rfl, hK _ _ (hC.trans (hB2.mono hC.size)) (fun v hh => (FinE.early (by have := HN.out; have := HNB.out; omega) hS2 hh).elim) e9 (ChJ.next 0 (by decide) (by decide) hd ⟨F2, fun k hk => Nat.le_trans (Nat.le_of_eq hS2.symm) (hF2 k hk), hO2⟩)⟩
    · clear hsz
      have e1 := slot_of (a := a9) (s := 1) (v := .pointer (some ⟨gE, 0, none⟩)) (hf 1 (by kernel_rfl))
      refine step_run (wanted_none rfl) (v := .pointer (some ⟨gE, 37, none⟩)) (w' := W) ?_ (hK _ _ hC (fun v hh => hh) rfl (hJ.same 5 (by decide)))
      go_simp
    · clear hsz
      have e1 := slot_of (a := a9) (s := 12) (v := .pointer (some ⟨gE, 37, none⟩)) (hv 5 (by kernel_rfl))
      have hk := (env_cells KL.out (KK.out W hC)).2.2.2.2
      refine step_run (wanted_none rfl) (v := .slice sa s.length sc) (w' := W) ?_ (hK _ _ hC (fun v hh => hh) rfl (hJ.same 6 (by decide)))
      go_simp
    · clear hsz
      have e1 := slot_of (a := a9) (s := 11) (v := .pointer (some ⟨g, 0, none⟩)) (hv 4 (by kernel_rfl))
      have e2 := slot_of (a := a9) (s := 13) (v := .slice sa s.length sc) (hv 6 (by kernel_rfl))
      obtain ⟨⟨F, hFb, hO⟩, hd⟩ := hJ.at_ 1 (by decide) hL (fun j hj e => by have hj0 : j = 0 := (by omega); subst hj0; exact hW 4 (by kernel_rfl))
      have cc : Calls Tryd.prog 20 #[.pointer (some ⟨g, 0, none⟩), .slice sa s.length sc] W (OutP W g (writeB K h s) false F) := bytes_any W g (boundB K h) false F sa s.length sc s hO (fun hn => by obtain ⟨b, off, e, hb, hc⟩ := RQ2.out hn; exact ⟨b, off, e, fun hm => by have := hFb b hm; omega, Nat.lt_of_lt_of_le hb hC.size, fun j hj => (hC.cell (p := ⟨b, off + j, none⟩) hb).trans (hc j hj)⟩) rfl (by have := HNB.out; omega)
      refine step_callx 20 #[.pointer (some ⟨g, 0, none⟩), .slice sa s.length sc] (wanted_none rfl) (w' := W) ?_ (cc.mono fun e W2 hh => ?_)
      · go_simp
      · obtain ⟨rfl, F2, hO2, hGr, hU⟩ := hh
        have hF2 : ∀ k ∈ F2, w2.heap.size ≤ k := fun k hk => (hGr k hk).elim (hFb k) (fun h => Nat.le_trans hC.size h)
        exact ⟨_, rfl, hK _ _ (hC.trans (hU.below hFb hC.size)) (fun v hh => (FinE.no hO (by have := HN.out; have := HNB.out; omega) hh).elim) rfl (ChJ.next 1 (by decide) (by decide) hd ⟨F2, hF2, hO2⟩)⟩
    · clear hsz
      have e1 := slot_of (a := a9) (s := 14) (v := .pointer (some ⟨g, 0, none⟩)) (hv 7 (by kernel_rfl))
      obtain ⟨⟨F, hFb, hO⟩, hd⟩ := hJ.at_ 2 (by decide) hL (fun j hj e => by have hj0 : j = 1 := (by omega); subst hj0; exact hW 7 (by kernel_rfl))
      have cc := done_any W g n (writeB K h s) false F hO HN.out (by have := HNB.out; omega)
      refine step_callx 16 #[.pointer (some ⟨g, 0, none⟩)] (wanted_none rfl) (w' := W) ?_ (cc.mono fun e W2 hh => ?_)
      · go_simp
      · obtain ⟨A, c9, rfl, hO2, hB2⟩ := hh
        have hlt : g < W.heap.size := by obtain ⟨_, all, hb, _⟩ := hO; exact hb.lt
        have h18 : W.cell? ⟨g, 1, none⟩ = some (.int .i64 ((writeB K h s).length : Int)) := by obtain ⟨_, all, hb, _⟩ := hO; exact hb.cell 1
        have hk2 := (hB2.cell (p := ⟨g, 1, none⟩) hlt).trans h18
        exact ⟨_, rfl, hK _ _ (hC.trans (hB2.mono hC.size)) (fun v hh => ⟨hh.1.below hB2 (Nat.le_refl _), hk2⟩) ⟨A, c9, rfl, World.ownsRow.mono hO2 hC.size, hk2⟩ (ChJ.next 2 (by decide) (by decide) hd trivial)⟩
    · clear hsz
      obtain ⟨A, c9, e0, hF⟩ := hv 8 (by kernel_rfl)
      have e1 := slot_of (a := a9) (s := 15) (v := .tuple #[.slice A n c9, .int .i64 0]) e0
      refine step_run (wanted_none rfl) (v := .slice A n c9) (w' := W) ?_ (hK _ _ hC (fun v hh => hh) ⟨A, c9, rfl, hF⟩ (hJ.same 9 (by decide)))
      go_simp
    · clear hsz
      obtain ⟨A, c9, e0, hF⟩ := hv 8 (by kernel_rfl)
      have e1 := slot_of (a := a9) (s := 15) (v := .tuple #[.slice A n c9, .int .i64 0]) e0
      refine step_run (wanted_none rfl) (v := .int .i64 0) (w' := W) ?_ (hK _ _ hC (fun v hh => hh) rfl (hJ.same 10 (by decide)))
      go_simp
    · clear hsz
      obtain ⟨A, c9, e0, hF⟩ := hv 9 (by kernel_rfl)
      have e1 := slot_of (a := a9) (s := 16) (v := .slice A n c9) e0
      refine step_run (wanted_none rfl) (v := .slice A n c9) (w' := W) ?_ (hK _ _ hC (fun v hh => hh) ⟨A, c9, rfl, hF⟩ (hJ.same 11 (by decide)))
      go_simp
    · clear hsz
      have e1 := slot_of (a := a9) (s := 17) (v := .int .i64 0) (hv 10 (by kernel_rfl))
      refine step_run (wanted_none rfl) (v := .int .i64 0) (w' := W) ?_ (hK _ _ hC (fun v hh => hh) rfl (hJ.same 12 (by decide)))
      go_simp
  · intro f w7 hC7 hv7 D7 hD7 hJ7
    obtain ⟨A, c9, e2, hF⟩ := hv7 11 (by decide)
    have e3 : f 3 = .int .i64 0 := hv7 12 (by decide)
    have e2b : f 2 = .slice A n c9 := e2
    have HF := hidxn_ hF.1
    have HC := hidxn_ hC7
    simp only [framed, List.foldl_cons, List.foldl_nil, List.setIfInBounds_toArray, List.set_cons_succ, List.set_cons_zero]
    rw [e2b, e3]
    clear hv7 hD7 hJ7 hF hC7 e2 e3 e2b
    refine hK9 _ _ ?_
    go_wp2
    go_ret2
    exact ⟨A, c9, rfl, World.ownsRow.mono HF.out X2.out.size, X2.out.trans (HC.out.mono X2.out.size)⟩
end Go.Proofs.YtmomnfhoeabdnaaDoor

namespace Go.Proofs.YtmomnfhoeabdnaaDoor
set_option maxRecDepth 100000
open Go.RowKit
set_option linter.unusedVariables false
set_option linter.unusedSimpArgs false

theorem put_otherX {a : Act} {s t : Nat} {v : Value} (h : s ≠ t) : (a.put (some t) v).tmps.getD s undef = a.tmps.getD s undef := by
  simp only [Act.put]
  simp [Array.getD_eq_getD_getElem?, Array.getElem?_setIfInBounds, Ne.symm h]
theorem put_selfX {a : Act} {t : Nat} {v : Value} (h : t < a.tmps.size) : (a.put (some t) v).tmps.getD t undef = v := by
  simp [Act.put, h]
/-- x: called; mv: its answer moved; s0, s1: taken apart; al: the block laid; st: stored; ae: e assigned. -/
structure XeJ {α : Type} (VX : α → Value) (RW : α → Array Value) (z : Value) (ty : TypeId) (base : Nat) (P0 : World → Prop) (P1 : α → World → Prop) (Bs : α → List Nat) (n0 : Nat) (x mv s0 s1 al st ae : Bool) (vx vm v0 v1 va vr : Value) (W : World) : Prop where
  hs : (mv = true → x = true) ∧ (s0 = true → mv = true) ∧ (s1 = true → mv = true) ∧ (st = true → s0 = true ∧ al = true) ∧ (ae = true → s1 = true)
  no : x = false → P0 W
  ex : ∃ a q X, (x = true → vx = VX a ∧ P1 a W) ∧ (mv = true → vm = VX a) ∧ (s0 = true → v0 = .agg (RW a)) ∧ (s1 = true → v1 = z) ∧ (ae = true → vr = z) ∧
    (al = true → va = .pointer (some ⟨q, 0, none⟩) ∧ base ≤ q ∧ Bk W q ty X ∧ X.size = n0) ∧ (st = true → X = RW a) ∧ (x = true → al = true → q ∉ Bs a)
section
variable {α : Type} {VX : α → Value} {RW : α → Array Value} {z : Value} {ty : TypeId} {base : Nat} {P0 : World → Prop} {P1 : α → World → Prop} {Bs : α → List Nat} {n0 : Nat} {x mv s0 s1 al st ae : Bool} {vx vm v0 v1 va vr : Value} {W W' : World}
theorem XeJ.start [Inhabited α] (h : P0 W) : XeJ VX RW z ty base P0 P1 Bs n0 false false false false false false false vx vm v0 v1 va vr W :=
  ⟨⟨fun e => Bool.noConfusion e, fun e => Bool.noConfusion e, fun e => Bool.noConfusion e, fun e => Bool.noConfusion e, fun e => Bool.noConfusion e⟩, fun _ => h, default, 0, #[], fun e => Bool.noConfusion e, fun e => Bool.noConfusion e, fun e => Bool.noConfusion e, fun e => Bool.noConfusion e, fun e => Bool.noConfusion e, fun e => Bool.noConfusion e, fun e => Bool.noConfusion e, fun e => Bool.noConfusion e⟩
theorem XeJ.to_x (h : XeJ VX RW z ty base P0 P1 Bs n0 x mv s0 s1 al st ae vx vm v0 v1 va vr W) (hx : x = false) (a : α) (h1 : P1 a W') (hk : ∀ k, base ≤ k → k < W.heap.size → W'.heap[k]? = W.heap[k]?) (hb : ∀ k ∈ Bs a, k < base ∨ W.heap.size ≤ k) :
    XeJ VX RW z ty base P0 P1 Bs n0 true mv s0 s1 al st ae (VX a) vm v0 v1 va vr W' := by
  obtain ⟨⟨b1, b2, b3, b4, b5⟩, c0, a0, q, X, k1, k2, k3, k4, k5, k6, k7, k8⟩ := h
  have f1 : mv = true → False := fun e => by have := b1 e; rw [hx] at this; cases this
  refine ⟨⟨fun _ => rfl, b2, b3, b4, b5⟩, fun e => Bool.noConfusion e, a, q, X, fun _ => ⟨rfl, h1⟩, fun e => (f1 e).elim, fun e => (f1 (b2 e)).elim, fun e => (f1 (b3 e)).elim, fun e => (f1 (b3 (b5 e))).elim, fun e => ?_, fun e => (f1 (b2 (b4 e).1)).elim, fun _ e hm => ?_⟩
  · obtain ⟨a1, a2, a3, a4⟩ := k6 e
    exact ⟨a1, a2, (hk q a2 a3.lt).trans a3, a4⟩
  · obtain ⟨a1, a2, a3, a4⟩ := k6 e
    have := a3.lt
    rcases hb q hm with h | h <;> omega
theorem XeJ.to_mv (h : XeJ VX RW z ty base P0 P1 Bs n0 x mv s0 s1 al st ae vx vm v0 v1 va vr W) (hx : x = true) : XeJ VX RW z ty base P0 P1 Bs n0 x true s0 s1 al st ae vx vx v0 v1 va vr W := by
  obtain ⟨⟨b1, b2, b3, b4, b5⟩, c0, a0, q, X, k1, k2, k3, k4, k5, k6, k7, k8⟩ := h
  exact ⟨⟨fun _ => hx, fun _ => rfl, fun _ => rfl, b4, b5⟩, c0, a0, q, X, k1, fun _ => (k1 hx).1, k3, k4, k5, k6, k7, k8⟩
theorem XeJ.to_s0 (h : XeJ VX RW z ty base P0 P1 Bs n0 x mv s0 s1 al st ae vx vm v0 v1 va vr W) (hx : mv = true) (a : α) (hv : vm = VX a) (hi : ∀ a a', VX a = VX a' → RW a = RW a') : XeJ VX RW z ty base P0 P1 Bs n0 x mv true s1 al st ae vx vm (.agg (RW a)) v1 va vr W := by
  obtain ⟨⟨b1, b2, b3, b4, b5⟩, c0, a0, q, X, k1, k2, k3, k4, k5, k6, k7, k8⟩ := h
  exact ⟨⟨b1, fun _ => hx, b3, fun e => ⟨rfl, (b4 e).2⟩, b5⟩, c0, a0, q, X, k1, k2, fun _ => by rw [hi a a0 (hv.symm.trans (k2 hx))], k4, k5, k6, k7, k8⟩
theorem XeJ.to_s1 (h : XeJ VX RW z ty base P0 P1 Bs n0 x mv s0 s1 al st ae vx vm v0 v1 va vr W) (hx : mv = true) : XeJ VX RW z ty base P0 P1 Bs n0 x mv s0 true al st ae vx vm v0 z va vr W := by
  obtain ⟨⟨b1, b2, b3, b4, b5⟩, c0, a0, q, X, k1, k2, k3, k4, k5, k6, k7, k8⟩ := h
  exact ⟨⟨b1, b2, fun _ => hx, b4, fun _ => rfl⟩, c0, a0, q, X, k1, k2, k3, fun _ => rfl, k5, k6, k7, k8⟩
theorem XeJ.to_ae (h : XeJ VX RW z ty base P0 P1 Bs n0 x mv s0 s1 al st ae vx vm v0 v1 va vr W) (hx : s1 = true) : XeJ VX RW z ty base P0 P1 Bs n0 x mv s0 s1 al st true vx vm v0 v1 va z W := by
  obtain ⟨⟨b1, b2, b3, b4, b5⟩, c0, a0, q, X, k1, k2, k3, k4, k5, k6, k7, k8⟩ := h
  exact ⟨⟨b1, b2, b3, b4, fun _ => hx⟩, c0, a0, q, X, k1, k2, k3, k4, fun _ => rfl, k6, k7, k8⟩
theorem XeJ.to_al (h : XeJ VX RW z ty base P0 P1 Bs n0 x mv s0 s1 al st ae vx vm v0 v1 va vr W) (hx : al = false) (hB : base ≤ W.heap.size) {X : Array Value} (hX : X.size = n0) (hp0 : P0 W → P0 (W.alloc (.cells X ty))) (hp1 : ∀ a, P1 a W → P1 a (W.alloc (.cells X ty)) ∧ ∀ k ∈ Bs a, k < W.heap.size) :
    XeJ VX RW z ty base P0 P1 Bs n0 x mv s0 s1 true st ae vx vm v0 v1 (.pointer (some ⟨W.heap.size, 0, none⟩)) vr (W.alloc (.cells X ty)) := by
  obtain ⟨⟨b1, b2, b3, b4, b5⟩, c0, a0, q, Y, k1, k2, k3, k4, k5, k6, k7, k8⟩ := h
  refine ⟨⟨b1, b2, b3, fun e => ⟨(b4 e).1, rfl⟩, b5⟩, fun e => hp0 (c0 e), a0, W.heap.size, X, fun e => ⟨(k1 e).1, (hp1 a0 (k1 e).2).1⟩, k2, k3, k4, k5, fun _ => ⟨rfl, hB, Bk.new _ _ _, hX⟩, fun e => ?_, fun e _ hm => ?_⟩
  · have := (b4 e).2; rw [hx] at this; cases this
  · have := (hp1 a0 (k1 e).2).2 _ hm
    omega
theorem XeJ.to_st (h : XeJ VX RW z ty base P0 P1 Bs n0 x mv s0 s1 al st ae vx vm v0 v1 va vr W) (h0 : s0 = true) (ha : al = true) {q : Nat} {R : Array Value} (hq : va = .pointer (some ⟨q, 0, none⟩)) (hv : v0 = .agg R) (hR : R.size = n0) (hb : Bk W' q ty R) (hp1 : ∀ a, P1 a W → q ∉ Bs a → P1 a W') :
    XeJ VX RW z ty base P0 P1 Bs n0 x mv s0 s1 al true ae vx vm v0 v1 va vr W' := by
  obtain ⟨⟨b1, b2, b3, b4, b5⟩, c0, a0, q', Y, k1, k2, k3, k4, k5, k6, k7, k8⟩ := h
  obtain ⟨a1, a2, a3, a4⟩ := k6 ha
  obtain rfl : q = q' := by
    rw [hq] at a1
    injection a1 with a1
    injection a1 with a1
    injection a1
  have hRR : R = RW a0 := by
    have := hv.symm.trans (k3 h0)
    injection this
  have hxt : x = true := b1 (b2 h0)
  refine ⟨⟨b1, b2, b3, fun _ => ⟨h0, ha⟩, b5⟩, fun e => ?_, a0, q, R, fun e => ⟨(k1 e).1, hp1 a0 (k1 e).2 (k8 e ha)⟩, k2, k3, k4, k5, fun _ => ⟨a1, a2, hb, hR⟩, fun _ => hRR, k8⟩
  rw [hxt] at e
  cases e
end
end Go.Proofs.YtmomnfhoeabdnaaDoor

namespace Go.Proofs.YtmomnfhoeabdnaaDoor
set_option maxRecDepth 100000
open Go.ChangeShapes Go.WideShapes Go.ChangeAt Go.RowKit
set_option linter.unusedVariables false
set_option linter.unusedSimpArgs false

/-- A note, by value. -/
structure NoteV where
  na : Option Addr
  nl : List UInt8
  nc : Nat
  va : Option Addr
  vl : List UInt8
  vc : Nat
  del : Bool
instance : Inhabited NoteV := ⟨⟨none, [], 0, none, [], 0, false⟩⟩
def NoteV.row (q : NoteV) : Array Value := #[.slice q.na q.nl.length q.nc, .slice q.va q.vl.length q.vc, .bool q.del]
structure NoteV.Ok (w : World) (B : Nat) (q : NoteV) : Prop where
  rn : Rd w B q.na q.nl
  hn : q.nl.length ≤ q.nc ∧ q.nc ≤ 9223372036854775807
  rv : Rd w B q.va q.vl
  hv : q.vl.length ≤ q.vc ∧ q.vc ≤ 9223372036854775807
theorem NoteV.Ok.below {w w' : World} {B : Nat} {q : NoteV} (h : q.Ok w B) (hb : Below B w w') : q.Ok w' B := ⟨h.rn.below hb, h.hn, h.rv.below hb, h.hv⟩
theorem NoteV.Ok.more {w : World} {B C : Nat} {q : NoteV} (h : q.Ok w B) (hB : B ≤ C) : q.Ok w C := ⟨h.rn.more hB, h.hn, h.rv.more hB, h.hv⟩
theorem cellsNote_ : Tryd.prog.cellsOf 30 = 3 := by kernel_rfl
theorem iNote (q : NoteV) : (Tryd.prog.info? 30).map (·.size) = some q.row.size := by kernel_rfl
theorem cells_note {H : Type} {enc : TypeId × Value → H} {w : World} {fuel : Nat} {sp : Nat → Bool} {held : Bool} {cs : List Value} {d : DataW H × List MemPlace} (hlc : cs.length = 3)
    (hf : DataW.trod enc Tryd.prog w 0 sp held fuel 30 cs = some d) : ∃ q : NoteV, cs = q.row.toList ∧ q.Ok w w.heap.size := by
  obtain ⟨xs, n, _, _, hl, hlen, hg⟩ := DataW.trod_struct Tryd.underlying30 hf
  match cs, hlc with
  | [k0, k1, k2], _ =>
  match xs, hlen with
  | [y0, y1, y2], _ =>
    have g0 := hg 0 _ rfl
    have g1 := hg 1 _ rfl
    have g2 := hg 2 _ rfl
    simp only [cellsI_, cellsU_, cellsSl_, cellsBo_, List.drop_succ_cons, List.drop_zero, List.take_succ_cons, List.take_zero, List.getElem?_cons_succ, List.getElem?_cons_zero] at g0 g1 g2
    obtain ⟨A0, l0, c0, e0, r0, h0, m0⟩ := cells_bytesV Tryd.underlying27 Tryd.underlying5 cellsU_ g0
    obtain ⟨A1, l1, c1, e1, r1, h1, m1⟩ := cells_bytesV Tryd.underlying27 Tryd.underlying5 cellsU_ g1
    obtain ⟨b2, e2⟩ := cells_boolX Tryd.underlying4 g2
    simp [cellsI_, cellsU_, cellsSl_, cellsBo_] at e0 e1 e2
    unfold maxLen at m0 m1
    refine ⟨⟨A0, l0, c0, A1, l1, c1, b2⟩, ?_, ⟨r0, ⟨h0, by show c0 ≤ _; omega⟩, r1, ⟨h1, by show c1 ≤ _; omega⟩⟩⟩
    rw [e0, e1, e2]
    rfl
def RdNt (w : World) (B : Nat) (A : Option Addr) (l : List NoteV) : Prop :=
  0 < l.length → ∃ b off, A = some ⟨b, off, none⟩ ∧ b < B ∧ ∀ j (h : j < l.length), (∀ t, t < 3 → w.cell? ⟨b, off + j * 3 + t, none⟩ = (l[j]).row[t]?) ∧ (l[j]).Ok w B
theorem RdNt.below {w w' : World} {B : Nat} {A : Option Addr} {l : List NoteV} (h : RdNt w B A l) (hb : Below B w w') : RdNt w' B A l := fun hn => by
  obtain ⟨b, off, e, hlt, hc⟩ := h hn
  refine ⟨b, off, e, hlt, fun j hj => ?_⟩
  obtain ⟨h1, h2⟩ := hc j hj
  exact ⟨fun t ht => (hb.cell (p := ⟨b, _, none⟩) hlt).trans (h1 t ht), h2.below hb⟩
theorem RdNt.more {w : World} {B C : Nat} {A : Option Addr} {l : List NoteV} (h : RdNt w B A l) (hB : B ≤ C) : RdNt w C A l := fun hn => by
  obtain ⟨b, off, e, hlt, hc⟩ := h hn
  exact ⟨b, off, e, Nat.lt_of_lt_of_le hlt hB, fun j hj => ⟨(hc j hj).1, (hc j hj).2.more hB⟩⟩
theorem open_notes {H : Type} {enc : TypeId × Value → H} {w : World} {b0 : Nat} {sp : Nat → Bool} {held : Bool} {r : Reach} {v : Value} {d : DataW H} {p : List MemPlace}
    (hv : Value.okWide Tryd.prog w r b0 22 v) (h : DataW.Trod enc Tryd.prog w 0 sp held 22 v d p) :
    ∃ A l c, v = .slice A (l : List NoteV).length c ∧ RdNt w w.heap.size A l ∧ l.length ≤ c ∧ c ≤ maxLen := by
  obtain ⟨a0, len, cap, rfl⟩ := okWide_slice Tryd.underlying22 hv
  obtain ⟨fuel, hf⟩ := h
  rcases Go.Deep.open_slice Tryd.underlying22 hf with ⟨hcs, hx⟩ | ⟨a, len', cap', m, n, D, Pl, hcs, _, hl, hm, hmm, hx, hel⟩
  · simp [Value.cells] at hcs
    obtain ⟨rfl, rfl, rfl⟩ := hcs
    exact ⟨none, [], 0, rfl, fun h => by simp at h, Nat.le_refl _, Nat.zero_le _⟩
  · simp [Value.cells] at hcs
    obtain ⟨rfl, rfl, rfl⟩ := hcs
    have hlm : len ≤ m := by rw [hmm]; split <;> omega
    rw [cellsNote_] at hel
    have hone : ∀ j, j < len → ∃ q : NoteV, (∀ t, t < 3 → w.cell? (a.add (j * 3 + t)) = q.row[t]?) ∧ q.Ok w w.heap.size := by
      intro j hj
      obtain ⟨cs', hc1, hc2⟩ := hel j (by omega)
      obtain ⟨_, hlen, hcell⟩ := World.cells?_some hc1
      obtain ⟨q, e, ho⟩ := cells_note (cs := cs') (by simpa using hlen) hc2
      refine ⟨q, fun t ht => ?_, ho⟩
      have c0 := hcell t (by omega)
      rw [Go.Deep.add_add] at c0
      rw [c0, e]
      simp
    obtain ⟨q, hq⟩ := Go.Deep.choose_lt hone
    refine ⟨some a, (List.range len).map q, cap, by simp, fun hn => ?_, by simpa using hl, hm⟩
    have hn' : 0 < len := by simpa using hn
    obtain ⟨b, off, spot⟩ := a
    have hc0 := (hq 0 hn').1 0 (by decide)
    rw [show (q 0).row[0]? = some (.slice (q 0).na (q 0).nl.length (q 0).nc) from rfl] at hc0
    have hspot : spot = none := by simpa [Addr.add] using World.cell?_spot hc0
    subst hspot
    have hplain : ∀ j, (⟨b, off, none⟩ : Addr).add j = ⟨b, off + j, none⟩ := fun j => by unfold Addr.add; split <;> simp_all
    refine ⟨b, off, rfl, World.block_lt_of_cell? w _ hc0, fun j hj => ?_⟩
    have hj' : j < len := by simpa using hj
    obtain ⟨h1, h4⟩ := hq j hj'
    have e : ((List.range len).map q)[j] = q j := by simp
    rw [e]
    refine ⟨fun t ht => ?_, h4⟩
    have h := h1 t ht
    rw [hplain] at h
    rw [← h]
    congr 2
    omega
/-! Two vaults. -/
theorem MineX.other {w W W' : World} {id : Bool} {v sp nm kn : Nat} {K : List UInt8} {N : List (List UInt8)} {L : List SealV} {F G : List Nat} (h : MineX w id v sp nm kn K N L F W) (hu : Untouched G W W') (hG : ∀ k ∈ G, k ∉ F) (hb : Below w.heap.size w W') : MineX w id v sp nm kn K N L F W' :=
  ⟨(VS.foot id v sp nm kn K N L).keep h.vs hu (fun k hk hm => hG k hm hk), h.own, hb⟩
structure TwoM (w : World) (va spa nma kna vb spb nmb knb : Nat) (K : List UInt8) (u : UInt8) (N : List (List UInt8)) (La Lb : List SealV) (Fa Fb : List Nat) (W : World) : Prop where
  a : MineX w true va spa nma kna K N La Fa W
  b : MineX w true vb spb nmb knb K (N.map (xorU u)) Lb Fb W
  dis : ∀ k ∈ Fa, k ∉ Fb
section
variable {w W W' : World} {va spa nma kna vb spb nmb knb : Nat} {K : List UInt8} {u : UInt8} {N N' : List (List UInt8)} {La Lb L' : List SealV} {Fa Fb F' : List Nat}
theorem TwoM.then_ (h : TwoM w va spa nma kna vb spb nmb knb K u N La Lb Fa Fb W) (hb : Below W.heap.size W W') : TwoM w va spa nma kna vb spb nmb knb K u N La Lb Fa Fb W' := ⟨h.a.then_ hb, h.b.then_ hb, h.dis⟩
end
theorem bV_xorU (K : List UInt8) (u : UInt8) (N : List (List UInt8)) (s : List UInt8) : bV true K (N.map (xorU u)) (xorU u s) = bV true K N s := by
  have h : nmBad (xorU u s) ↔ nmBad s := by unfold nmBad; rw [xorU_len]
  unfold bV
  by_cases hb : nmBad s
  · rw [if_pos hb, if_pos (h.2 hb)]
  · rw [if_neg hb, if_neg (fun e => hb (h.1 e))]
    unfold bB
    rw [ordN_xorU, if_pos rfl, if_pos rfl]
theorem bN_xorU (u : UInt8) (N : List (List UInt8)) (s : List UInt8) : bN true (N.map (xorU u)) (xorU u s) = (bN true N s).map (xorU u) := by
  have h : nmBad (xorU u s) ↔ nmBad s := by unfold nmBad; rw [xorU_len]
  unfold bN
  by_cases hb : nmBad s
  · rw [if_pos hb, if_pos (h.2 hb)]
  · rw [if_neg hb, if_neg (fun e => hb (h.1 e)), if_pos rfl, if_pos rfl, addNm_xorU]
/-- What is sealed by either. -/
theorem sB_id (K : List UInt8) (L : List SealV) (e c n : Int) (x b : List UInt8) (h1 : slOk e c n) (h2 : (c.toNat, n.toNat) ∉ L.map cn) : sB true K L e c n x b = drawB K 1 (L.length + 1) (b.length + 8) := by
  unfold sB
  rw [if_pos ⟨h1, h2⟩]
  unfold sO
  rw [if_pos rfl]
theorem sL_id (K : List UInt8) (L : List SealV) (e c n : Int) (x b : List UInt8) (h1 : slOk e c n) (h2 : (c.toNat, n.toNat) ∉ L.map cn) : (sL true K L e c n x b).map cn = L.map cn ++ [(c.toNat, n.toNat)] ∧ (sL true K L e c n x b).length = L.length + 1 := by
  unfold sL
  rw [if_pos ⟨h1, h2⟩]
  simp [cn]
theorem esP64r (del : Bool) (u : List UInt8) (hu : u.length ≤ 59) : (esP del u).length = 64 := by
  rw [esP_len del u (by omega)]
  have := packB_len del u
  unfold clsS clsK
  rw [if_pos (by omega)]
  rfl
/-- What both have sealed so far: the same numbers. -/
structure NumsTo (j : Nat) (N : List (List UInt8)) (La Lb : List SealV) : Prop where
  eq : Lb.map cn = La.map cn
  lt : ∀ p ∈ La.map cn, p.2 ≤ j
  len : La.length ≤ j ∧ N.length ≤ j
theorem NumsTo.skip {j : Nat} {N : List (List UInt8)} {La Lb : List SealV} (h : NumsTo j N La Lb) : NumsTo (j + 1) N La Lb := ⟨h.eq, fun p hp => Nat.le_succ_of_le (h.lt p hp), ⟨Nat.le_succ_of_le h.len.1, Nat.le_succ_of_le h.len.2⟩⟩
theorem NumsTo.blen {j : Nat} {N : List (List UInt8)} {La Lb : List SealV} (h : NumsTo j N La Lb) : Lb.length = La.length := by
  have := congrArg List.length h.eq
  simpa using this
theorem NumsTo.new {j : Nat} {N : List (List UInt8)} {La Lb : List SealV} (h : NumsTo j N La Lb) (c : Nat) : (c, j + 1) ∉ La.map cn ∧ (c, j + 1) ∉ Lb.map cn := by
  have h1 : (c, j + 1) ∉ La.map cn := fun hm => by have := h.lt _ hm; simp at this; omega
  exact ⟨h1, by rw [h.eq]; exact h1⟩
/-! What a sealing gives beside the vault. -/
structure SlA where
  pa : Option Addr
  pc : Nat
  sa : Option Addr
  sc : Nat
  F : List Nat
instance : Inhabited SlA := ⟨⟨none, 0, none, 0, []⟩⟩
def slVX (K : List UInt8) (h : HeadV) (ns : Nat) (a : SlA) : Value := .tuple #[.agg (eRow K { h with pa := a.pa, pc := a.pc } a.sa ns a.sc), .int .i64 0]
def slRW (K : List UInt8) (h : HeadV) (ns : Nat) (a : SlA) : Array Value := eRow K { h with pa := a.pa, pc := a.pc } a.sa ns a.sc
theorem slVX_inj {K : List UInt8} {h : HeadV} {ns : Nat} {a a' : SlA} (e : slVX K h ns a = slVX K h ns a') : slRW K h ns a = slRW K h ns a' := by simpa [slVX, slRW] using e
def erVX (a : SlA) : Value := .tuple #[.agg eRow0, .int .i64 1]
def erRW (a : SlA) : Array Value := eRow0
def slBs (a : SlA) : List Nat := a.F ++ blkOf a.sa
structure SlP (w : World) (v sp nm kn : Nat) (K : List UInt8) (N : List (List UInt8)) (L : List SealV) (ns : Nat) (S : List UInt8) (base : Nat) (F0 : List Nat) (a : SlA) (W : World) : Prop where
  m : MineX w true v sp nm kn K N L a.F W
  o : Own8 W base (.slice a.sa ns a.sc) S
  f : ∀ k ∈ a.F, k ∈ F0 ∨ base ≤ k
section
variable {w W W' : World} {v sp nm kn ns base q : Nat} {K S : List UInt8} {N : List (List UInt8)} {L : List SealV} {F0 : List Nat} {a : SlA}
theorem SlP.alloc_ (h : SlP w v sp nm kn K N L ns S base F0 a W) (hb : Below W.heap.size W W') : SlP w v sp nm kn K N L ns S base F0 a W' := ⟨h.m.then_ hb, h.o.below hb (Nat.le_refl _), h.f⟩
theorem mem_blkOf {A : Option Addr} {n c k : Nat} (h : (Value.slice A n c).ownBlock = some k) : k ∈ blkOf A := by
  obtain ⟨x, rfl, rfl⟩ := ownBlock_some h
  simp [blkOf]
theorem SlP.lt (h : SlP w v sp nm kn K N L ns S base F0 a W) : ∀ k ∈ slBs a, k < W.heap.size := fun k hk => by
  rcases List.mem_append.1 hk with hk | hk
  · exact h.m.lt k hk
  · simp only [blkOf, Option.mem_toList, Option.map_eq_some_iff] at hk
    obtain ⟨x, ex, rfl⟩ := hk
    exact (World.ownsRow.lt h.o x.block (by rw [ex]; rfl)).2
theorem SlP.keep (h : SlP w v sp nm kn K N L ns S base F0 a W) (hu : Untouched [q] W W') (hq : q ∉ slBs a) (hw : w.heap.size ≤ q) : SlP w v sp nm kn K N L ns S base F0 a W' :=
  ⟨h.m.other hu (fun k hk hm => hq (List.mem_append.2 (.inl (by rw [← List.mem_singleton.1 hk]; exact hm)))) (h.m.below.trans (hu.below (fun k hk => by rw [List.mem_singleton.1 hk]; exact hw) h.m.below.size)),
    h.o.at_ (fun k hk => hu.block k (World.ownsRow.lt h.o k hk).2 (fun hm => hq (List.mem_append.2 (.inr (by rw [← List.mem_singleton.1 hm]; exact mem_blkOf hk))))), h.f⟩
end
end Go.Proofs.YtmomnfhoeabdnaaDoor
