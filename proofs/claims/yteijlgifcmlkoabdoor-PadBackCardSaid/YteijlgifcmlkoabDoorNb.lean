/-
  pad.Pad and the document's Pad; pads answers true.
-/
import Derived.Test.YteijlgifcmlkoabDoorNa
import Derived.Test.YteijlgifcmlkoabDoorGf
namespace Go.Proofs.YteijlgifcmlkoabDoor
open Go.ChangeShapes Go.WideShapes Go.ChangeAt Go.RowKit
set_option linter.unusedVariables false
set_option linter.unusedSimpArgs false

/-- The padded bytes. -/
def padB (l : List UInt8) : List UInt8 := highB 4 l.length ++ l ++ List.replicate (clsS l.length - 4 - l.length) 0
theorem padB_len (l : List UInt8) (h : l.length ≤ 4000) : (padB l).length = clsS l.length := by
  have := size_at l.length h
  simp [padB, highB_len]
  omega
/-- What Pad leaves. -/
def PadP (w : World) (N : Nat) (l : List UInt8) (e : Ending) (w' : World) : Prop := ∃ A c, e = .returned (.tuple #[.slice A N c, .int .i64 0]) ∧ Own8 w' w.heap.size (.slice A N c) l ∧ Below w.heap.size w w'
theorem below_untp {w w1 w2 : World} {B : Nat} {F : List Nat} (hx : Below B w w1) (hB : B ≤ w.heap.size) (hu : Untouched F w1 w2) (hF : ∀ k ∈ F, B ≤ k) : Below B w w2 := hx.trans (hu.below hF (Nat.le_trans hB hx.size))
theorem grew_gep {w1 : World} {B : Nat} {F F2 : List Nat} (hG : Grew w1 F F2) (hF : ∀ k ∈ F, B ≤ k) (hB : B ≤ w1.heap.size) : ∀ k ∈ F2, B ≤ k := fun k hk => by
  rcases hG k hk with h | h
  · exact hF k h
  · omega

set_option maxRecDepth 100000 in
set_option maxHeartbeats 2000000 in
theorem pad_big (w : World) (A : Option Addr) (n c : Nat) (hn : 4000 < n) (ht : PTab w) :
    Calls Tryd.prog 10 #[.slice A n c] w fun e w' => e = .returned (.tuple #[.slice none 0 0, .int .i64 5]) ∧ w = w' := by
  have cc := class_any w (n : Int) ht
  rw [show clsR (n : Int) = (0, 0, 5) by unfold clsR; rw [if_neg (by omega), if_pos (by omega)]] at cc
  clear hn ht
  go_enter Tryd.func10, Tryd.ntmps10
  go_wp2_with (go_at_call 7; ((with_reducible refine cc.mono ?_); rintro e w2 ⟨rfl, rfl⟩))
  go_ret2
  exact ⟨rfl, rfl⟩
set_option maxRecDepth 100000 in
set_option maxHeartbeats 4000000 in
theorem pad_any (w : World) (A : Option Addr) (n c : Nat) (l : List UInt8) (hn : l.length = n) (hn4 : n ≤ 4000) (hr : Rd w w.heap.size A l) (ht : PTab w) :
    Calls Tryd.prog 10 #[.slice A n c] w (PadP w (clsS n) (padB l)) := by
  have cc := class_any w (n : Int) ht
  rw [show clsR (n : Int) = ((clsS n : Int), (clsK n : Int), 0) by unfold clsR; rw [if_neg (by omega), if_neg (by omega)]; rfl] at cc
  have hsa := size_at n hn4
  have hsl := clsS_le n
  have HP0 : padB l = highB 4 n ++ l ++ List.replicate (clsS n - 4 - n) 0 := by rw [padB, hn]
  have HPL0 := padB_len l (by omega)
  rw [hn] at HPL0
  generalize clsK n = K at *
  generalize clsS n = N at *
  obtain ⟨m, hm⟩ : ∃ m, N - 4 = m := ⟨_, rfl⟩
  obtain ⟨z, hz⟩ : ∃ z, m - n = z := ⟨_, rfl⟩
  rw [hm, hz] at HP0
  have r1 : IntKind.i64.wrap ((N : Int) - 4) = (m : Int) := by rw [IntWalk.i64_in _ (by omega)]; omega
  have r2 : (N : Int) - 4 = (m : Int) := by omega
  have r3 : IntKind.i64.wrap ((m : Int) - (n : Int)) = (z : Int) := by rw [IntWalk.i64_in _ (by omega)]; omega
  have r4 : (m : Int) - (n : Int) = (z : Int) := by omega
  have hmk := fun W => mk8 z (by omega) W
  have hz5 : z ≤ 5000 := by omega
  have hN5 : N ≤ 5000 := by omega
  have K1 : Blk8 (w.alloc (.cells (rowOf (List.replicate z 0)) 5)) w.heap.size (List.replicate z 0) := Blk8.new w _
  have B1 : Below w.heap.size w (w.alloc (.cells (rowOf (List.replicate z 0)) 5)) := (Below.refl _ _).alloc (Nat.le_refl _) _
  have s1 : (w.alloc (.cells (rowOf (List.replicate z 0)) 5)).heap.size = w.heap.size + 1 := by simp
  obtain ⟨w1, hw1⟩ : ∃ w1, w.alloc (.cells (rowOf (List.replicate z 0)) 5) = w1 := ⟨_, rfl⟩
  rw [hw1] at K1 B1 s1
  have O2 : OutF (w1.alloc (.cells #[.pointer none, .int .i64 0, .bool false] 41)) w1.heap.size [] false [w1.heap.size] := OutF.zero w1
  have B2 : Below w1.heap.size w1 (w1.alloc (.cells #[.pointer none, .int .i64 0, .bool false] 41)) := (Below.refl _ _).alloc (Nat.le_refl _) _
  obtain ⟨w2, hw2⟩ : ∃ w2, w1.alloc (.cells #[.pointer none, .int .i64 0, .bool false] 41) = w2 := ⟨_, rfl⟩
  rw [hw2] at O2 B2
  have K2 := hidp_ (show Blk8 w2 w.heap.size (List.replicate z 0) from (B2.block _ (by omega)).trans K1)
  have X2 := hidp_ (show Below w.heap.size w w2 from B1.trans (B2.mono (by omega)))
  obtain ⟨g, hg⟩ : ∃ g, w.heap.size + 1 = g := ⟨_, rfl⟩
  rw [hg] at s1
  rw [s1] at O2
  have s2 := hidp_ (show g < w2.heap.size by rw [← hw2]; simp; omega)
  have HG := hidp_ hg
  have E2 := hidp_ (show ∀ k ∈ [g], w.heap.size ≤ k by simp; omega)
  have R2 := hidp_ ((hr.below X2.out).rdf (F := [g]) X2.out.size (by simp; omega))
  have c1 := bytes_any w2 g [] false [g] A n c l O2 R2.out hn (by simp; omega)
  rw [List.nil_append] at c1
  have LL := hidp_ (show (highB 4 n ++ l).length = 4 + n by rw [List.length_append, highB_len, hn])
  have HP := hidp_ HP0
  have HPL := hidp_ HPL0
  have ZL := hidp_ (show (List.replicate z (0 : UInt8)).length = z by simp)
  generalize List.replicate z (0 : UInt8) = Z at *
  generalize highB 4 n ++ l = L at *
  clear hr hn ht K1 B1 B2 O2 HP0 HPL0 hm hz
  go_enter Tryd.func10, Tryd.ntmps10
  go_wp2_with (first
    | (go_at_call 7; ((with_reducible refine cc.mono ?_); rintro e wc ⟨rfl, rfl⟩))
    | (go_at_call 14; ((with_reducible refine c1.mono ?_); clear c1; rintro e w3 ⟨rfl, F3, hO3, hG3, hU3⟩; have O3 := hidp_ hO3; have E3 := hidp_ (grew_gep hG3 E2.out X2.out.size); have X3 := hidp_ (below_untp X2.out (Nat.le_refl _) hU3 E2.out); have N3 := hidp_ (show RdF w3 F3 (some ⟨w.heap.size, 0, none⟩) Z from RdF.keep (fun hn => ⟨_, 0, rfl, by have := HG.out; simp; omega, K2.out.lt, fun j hj => by rw [Nat.zero_add]; exact K2.out.cell j hj⟩) hU3 hG3); clear hO3 hG3 hU3))
    | (go_at_call 15; have c2 := fixed_any w3 g L false F3 (some ⟨w.heap.size, 0, none⟩) z z Z O3.out N3.out ZL.out (by rw [LL.out]; omega); rw [← HP.out] at c2; ((with_reducible refine c2.mono ?_); clear c2; rintro e w4 ⟨rfl, F4, hO4, hG4, hU4⟩; have O4 := hidp_ hO4; have X4 := hidp_ (below_untp X3.out (Nat.le_refl _) hU4 E3.out); clear hO4 hG4 hU4))
    | (go_at_call 16; have c3 := done_any w4 g N (padB l) false F4 O4.out HPL.out (by omega); ((with_reducible refine c3.mono ?_); clear c3; rintro e w5 ⟨A5, c5, rfl, hO5, hB5⟩; have O5 := hidp_ (hO5.lower X4.out.size); have X5 := hidp_ (X4.out.trans (hB5.mono X4.out.size)); clear hO5 hB5)))
  go_ret2
  exact ⟨A5, c5, rfl, O5.out, X5.out⟩
set_option maxRecDepth 100000 in
set_option maxHeartbeats 4000000 in
theorem refPad_any (w : World) (n : Nat) (l : List UInt8) (hn : l.length = n) (hn4 : n ≤ 4000) :
    Calls Tryd.prog 12 #[.string (strOf l)] w fun e w' => e = .returned (.string (strOf (padB l))) ∧ Below w.heap.size w w' := by
  have cc := refClass_any w (n : Int)
  rw [show clsR (n : Int) = ((clsS n : Int), (clsK n : Int), 0) by unfold clsR; rw [if_neg (by omega), if_neg (by omega)]; rfl] at cc
  have hsa := size_at n hn4
  have hsl := clsS_le n
  have HP0 : padB l = highB 4 n ++ l ++ List.replicate (clsS n - 4 - n) 0 := by rw [padB, hn]
  generalize clsK n = K at *
  generalize clsS n = N at *
  have cb := refBytes_any w l n hn (by omega)
  have LL : (strOf (highB 4 n ++ l)).size = 4 + n := by rw [strOf_size, List.length_append, highB_len, hn]
  have hls : (strOf l).size = n := by rw [strOf_size, hn]
  obtain ⟨n4, hn4e⟩ : ∃ m, 4 + n = m := ⟨_, rfl⟩
  obtain ⟨z, hz⟩ : ∃ z, N - n4 = z := ⟨_, rfl⟩
  rw [show N - 4 - n = z by omega] at HP0
  rw [hn4e] at LL
  have r3 : IntKind.i64.wrap ((N : Int) - (n4 : Int)) = (z : Int) := by rw [IntWalk.i64_in _ (by omega)]; omega
  have r4 : (N : Int) - (n4 : Int) = (z : Int) := by omega
  have hmk := fun W => mk8 z (by omega) W
  have ZL := hidp_ (show (List.replicate z (0 : UInt8)).length = z by simp)
  have ZS : (strOf (List.replicate z (0 : UInt8))).size = z := by rw [strOf_size]; simp
  have hap := strOf_append (highB 4 n ++ l) (List.replicate z 0)
  rw [← HP0] at hap
  have hsz : (strOf (highB 4 n ++ l)).size + (strOf (List.replicate z (0 : UInt8))).size ≤ 9223372036854775807 := by rw [LL, ZS]; omega
  generalize padB l = P at *
  generalize highB 4 n ++ l = L at *
  generalize List.replicate z (0 : UInt8) = Z at *
  clear HP0 hn hz hn4e
  go_enter Tryd.func12, Tryd.ntmps12
  go_wp2_with (first
    | (go_at_call 8; ((with_reducible refine cc.mono ?_); rintro e wc ⟨rfl, rfl⟩))
    | (go_at_call 20; ((with_reducible refine cb.mono ?_); clear cb; rintro e w2 ⟨rfl, hb⟩; have B2 := hidp_ hb; have hcv := conv_strn ((Blk8.new w2 Z).rd (Blk8.new w2 Z).lt) z z ZL.out; clear hb)))
  go_ret
  exact ⟨rfl, B2.out.alloc B2.out.size _⟩
set_option maxRecDepth 100000 in
set_option maxHeartbeats 4000000 in
theorem pads_any (w : World) (ht : PTab w) (hg : 0 < w.heap.size) : Calls Tryd.prog 9 #[] w fun e w' => e = .returned (.bool true) ∧ Below w.heap.size w w' := by
  have cc : Calls Tryd.prog 7 #[.int .i64 61] w fun e w' => e = .returned (.tuple #[.int .i64 256, .int .i64 1, .int .i64 0]) ∧ w = w' := class_any w 61 ht
  have k1 := Lib.run_convert_bytes_const (P := Tryd.prog) w 27 5 #[.int .u8 120] 1 1 Tryd.underlying27 Tryd.underlying5
  obtain ⟨w1, hw1⟩ : ∃ w1, w.alloc (.cells #[.int .u8 120] 5 (1, 2)) = w1 := ⟨_, rfl⟩
  have B1 := hidp_ (show Below w.heap.size w w1 by rw [← hw1]; exact (Below.refl _ _).alloc (Nat.le_refl _) _)
  have R1 : Rd w1 (w.heap.size + 1) (some ⟨w.heap.size, 0, none⟩) [120] := by
    have h := rd_mark w [120] (1, 2)
    rw [show rowOf [120] = #[.int .u8 120] from rfl, hw1] at h
    exact h
  have s1 : w1.heap.size = w.heap.size + 1 := by rw [← hw1]; simp
  have cp : Calls Tryd.prog 10 #[.slice (some ⟨w.heap.size, 0, none⟩) 1 1] w1 (PadP w1 64 (padB [120])) := pad_any w1 (some ⟨w.heap.size, 0, none⟩) 1 1 [120] rfl (by omega) (R1.more (by omega)) (ht.below B1.out hg)
  have P3 := hidp_ (show ((padB [120]).getD 3 0).toNat = 1 by decide)
  have P4 := hidp_ (show ((padB [120]).getD 4 0).toNat = 120 by decide)
  generalize padB [120] = P at *
  clear ht R1
  go_enter Tryd.func9, Tryd.ntmps9
  go_wp2_with (first
    | (go_at_call 7; ((with_reducible refine cc.mono ?_); rintro e wc ⟨rfl, rfl⟩))
    | (go_at_call 10; ((with_reducible refine cp.mono ?_); clear cp; rintro e w5 ⟨A5, c5, rfl, hO5, hB5⟩; obtain ⟨g5, rfl⟩ := hO5.block_ (by omega); have h3 := hO5.cellz 3 (by omega); have h4 := hO5.cellz 4 (by omega); rw [P3.out] at h3; rw [P4.out] at h4; have X5 := hidp_ (B1.out.trans (hB5.mono (by omega))); clear hO5 hB5)))
  go_ret
  exact ⟨rfl, X5.out⟩
end Go.Proofs.YteijlgifcmlkoabDoor
