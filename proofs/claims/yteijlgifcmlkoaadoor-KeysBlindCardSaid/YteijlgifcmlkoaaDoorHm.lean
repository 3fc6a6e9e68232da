/-
  hkdf.Extract gives the digest; keys.keyFor gives the bytes that come out of a key.
-/
import Derived.Test.YteijlgifcmlkoaaDoorHl
import Derived.Test.YteijlgifcmlkoaaDoorHd
namespace Go.Proofs.YteijlgifcmlkoaaDoor
open Go.ChangeShapes Go.WideShapes Go.ChangeAt Go.RowKit
set_option linter.unusedVariables false
set_option linter.unusedSimpArgs false

theorem parts_1m {W : World} {h n1 c1 : Nat} {A1 : Option Addr} {X : List UInt8} (hb : Bk W h 22 #[.slice A1 n1 c1]) (hn1 : X.length = n1) (hX : Rd W W.heap.size A1 X) (hc1 : n1 ≤ c1) (hm1 : c1 ≤ 9223372036854775807) : Parts W W.heap.size (some ⟨h, 0, none⟩) [X] := by
  subst hn1
  have h0 := hb.cell 0
  simp only [List.getElem?_toArray, List.getElem?_cons_zero] at h0
  refine fun _ => ⟨h, 0, rfl, hb.lt, fun j hj => ?_⟩
  have hj3 : j < 1 := hj
  obtain rfl : j = 0 := by omega
  exact ⟨_, _, h0, hX, hc1, hm1⟩
theorem i32r (l : List UInt8) (h : l.length = 32) : (Tryd.prog.info? 23).map (·.size) = some (rowOf l).size := by rw [rowOf_size, h]; exact i32_

set_option maxRecDepth 100000 in
set_option maxHeartbeats 4000000 in
theorem extract_any (w : World) (A9 : Option Addr) (n9 c9 : Nat) (key : List UInt8) (hn9 : key.length = n9) (hk9 : n9 ≤ 1000000) (hc9 : n9 ≤ c9) (hcm9 : c9 ≤ 9223372036854775807) (hr9 : Rd w w.heap.size A9 key)
    (A8 : Option Addr) (n8 c8 : Nat) (text : List UInt8) (hn8 : text.length = n8) (hk8 : n8 ≤ 1000000) (hc8 : n8 ≤ c8) (hcm8 : c8 ≤ 9223372036854775807) (hr8 : Rd w w.heap.size A8 text)
    (ht : Tab w) (hg1 : 1 < w.heap.size) :
    Calls Tryd.prog 6 #[.slice A9 n9 c9, .slice A8 n8 c8] w fun e w' => e = .returned (.agg (rowOf (hmacB key text))) ∧ Below w.heap.size w w' := by
  have hz := z32
  obtain ⟨r, hre⟩ : ∃ r, w.heap.size = r := ⟨_, rfl⟩
  obtain ⟨w0, hw0⟩ : ∃ w0, w.alloc (.cells (rowOf (zbytes 32)) 23) = w0 := ⟨_, rfl⟩
  have B0 : Below r w w0 := by rw [← hw0, ← hre]; exact (Below.refl w.heap.size w).alloc (Nat.le_refl _) _
  have R0 : Bk w0 r 23 (rowOf (zbytes 32)) := by rw [← hw0, ← hre]; exact Bk.new w _ _
  have S0 : w0.heap.size = r + 1 := by rw [← hw0, ← hre]; simp
  obtain ⟨w1, hw1⟩ : ∃ w1, w0.alloc (.cells #[.slice A8 n8 c8] 22) = w1 := ⟨_, rfl⟩
  have B1 : Below w0.heap.size w0 w1 := by rw [← hw1]; exact (Below.refl _ _).alloc (Nat.le_refl _) _
  have K1 : Bk w1 (r + 1) 22 #[.slice A8 n8 c8] := by rw [← S0, ← hw1]; exact Bk.new w0 _ _
  have X1 : Below r w w1 := B0.trans (B1.mono (by have := B0.size; omega))
  have S1 : r ≤ w1.heap.size := by have := X1.size; omega
  rw [hre] at hg1 hr9 hr8
  have ch := hmac_any w1 A9 n9 c9 key hn9 (by omega) hc9 hcm9 ((hr9.below X1).more S1) (some ⟨r + 1, 0, none⟩) 1 1 [text] rfl (parts_1m K1 hn8 ((hr8.below X1).more S1) hc8 hcm8) (by omega) (by simp [hn8]; omega) (fun t h => (X1.cell (p := ⟨_, t, none⟩) hg1).trans (ht t h)) (by omega)
  rw [show ([text] : List (List UInt8)).flatten = text by simp] at ch
  obtain ⟨dg, hdg⟩ : ∃ dg, hmacB key text = dg := ⟨_, rfl⟩
  have DL := hidj_ (show dg.length = 32 by rw [← hdg]; exact hmacB_len _ _)
  rw [hdg] at ch ⊢
  have I := hidj_ (i32r dg DL.out)
  have Q := hidj_ (show (rowOf (zbytes 32)).size = (rowOf dg).size by rw [rowOf_size, rowOf_size, DL.out, zbytes_len])
  have RR := hidj_ (R0.below B1 R0.lt)
  have XX := hidj_ X1
  have HRE := hidj_ hre
  have SS := hidj_ S1
  clear hdg ht hr9 hr8 B0 R0 B1 K1 X1 S1 hn9 hn8
  go_enter Tryd.func6, Tryd.ntmps6
  go_wp2_with (first
    | (go_at_call 18; ((with_reducible refine ch.mono ?_); rintro e w5 ⟨rfl, hb⟩; have R5 := hidj_ (RR.out.below hb RR.out.lt); have X5 := hidj_ (XX.out.trans (hb.mono SS.out)); clear hb ch))
    | (refine wpList_put_row rfl 23 _ _ rfl r (rowOf dg) rfl rfl 23 (rowOf (zbytes 32)) R5.out I.out Q.out (bytes_one _) ?_; intro W9 k9 g9 s9))
  exact bodyPost_ret (results_cell_row Tryd.results6 _ _ r 23 _ (0, 0) _ rfl k9 Tryd.underlying23 rfl I.out) rfl ⟨rfl, by rw [HRE.out]; exact X5.out.grown g9 (by have := X5.out.size; omega) (fun k hk => by injection hk with hk; omega)⟩

/-- Thirty-two bytes, read out of a slice. -/
theorem at32 (A : Option Addr) (c : Nat) (W : World) : (Instr.arrayAt 23 (.slice A 32 c)).run Tryd.prog W = .ok (.pointer A) W := run_arrayAt W 23 5 32 A 32 c Tryd.underlying23 (Nat.le_refl _)
set_option maxRecDepth 100000 in
set_option maxHeartbeats 4000000 in
theorem keyFor_any (w : World) (m : List UInt8) (hm : m.length = 32)
    (A8 : Option Addr) (n8 c8 : Nat) (use : List UInt8) (hn8 : use.length = n8) (hk8 : n8 ≤ 1000000) (hc8 : n8 ≤ c8) (hcm8 : c8 ≤ 9223372036854775807) (hr8 : Rd w w.heap.size A8 use)
    (ht : Tab w) (hg1 : 1 < w.heap.size) :
    Calls Tryd.prog 21 #[.agg (rowOf m), .slice A8 n8 c8] w fun e w' => e = .returned (.tuple #[.agg (rowOf (expandB m use 32)), .int .i64 0]) ∧ Below w.heap.size w w' := by
  have hz := z32
  obtain ⟨r, hre⟩ : ∃ r, w.heap.size = r := ⟨_, rfl⟩
  obtain ⟨wm, hwm⟩ : ∃ wm, w.alloc (.cells (rowOf m) 23) = wm := ⟨_, rfl⟩
  have Bm : Below r w wm := by rw [← hwm, ← hre]; exact (Below.refl w.heap.size w).alloc (Nat.le_refl _) _
  have Km : Bk wm r 23 (rowOf m) := by rw [← hwm, ← hre]; exact Bk.new w _ _
  have Sm : wm.heap.size = r + 1 := by rw [← hwm, ← hre]; simp
  obtain ⟨w0, hw0⟩ : ∃ w0, wm.alloc (.cells (rowOf (zbytes 32)) 23) = w0 := ⟨_, rfl⟩
  have B0 : Below wm.heap.size wm w0 := by rw [← hw0]; exact (Below.refl _ _).alloc (Nat.le_refl _) _
  have R0 : Bk w0 (r + 1) 23 (rowOf (zbytes 32)) := by rw [← Sm, ← hw0]; exact Bk.new wm _ _
  have K0 := Km.below B0 Km.lt
  have X0 : Below r w w0 := Bm.trans (B0.mono (by have := Bm.size; omega))
  have S0 : r ≤ w0.heap.size := by have := R0.lt; omega
  rw [hre] at hg1 hr8
  have ce : Calls Tryd.prog 7 #[.slice (some ⟨r, 0, none⟩) 32 32, .slice A8 n8 c8, .int .i64 32] w0 (ExpP w0 (expandB m use 32)) :=
    expand_any w0 (some ⟨r, 0, none⟩) 32 32 m hm (by omega) (Nat.le_refl _) (by omega) (K0.rd K0.lt) A8 n8 c8 use hn8 hk8 hc8 hcm8 ((hr8.below X0).more S0) 32 (by omega) (fun t h => (X0.cell (p := ⟨_, t, none⟩) hg1).trans (ht t h)) (by omega)
  obtain ⟨L, hL⟩ : ∃ L, expandB m use 32 = L := ⟨_, rfl⟩
  have LL := hidj_ (show L.length = 32 by rw [← hL]; exact expandB_len _ _ _ (by omega))
  rw [hL] at ce ⊢
  have I := hidj_ (i32r L LL.out)
  have Q := hidj_ (show (rowOf (zbytes 32)).size = (rowOf L).size by rw [rowOf_size, rowOf_size, LL.out, zbytes_len])
  have RR := hidj_ R0
  have XX := hidj_ X0
  have HRE := hidj_ hre
  have SS := hidj_ S0
  have hall := dig_all
  have hat := at32
  clear hL ht hr8 Bm Km B0 R0 K0 X0 S0 hn8 hm
  go_enter Tryd.func21, Tryd.ntmps21
  go_wp2_with (first
    | (go_at_call 7; ((with_reducible refine ce.mono ?_); rintro e w5 ⟨A5, c5, rfl, ho, hb⟩; rw [LL.out] at ho ⊢; obtain ⟨g5, rfl⟩ := ho.block_ (by omega); have O5 := hidj_ ho; have R5 := hidj_ (RR.out.below hb RR.out.lt); have X5 := hidj_ (XX.out.trans (hb.mono SS.out)); clear hb ho ce; have C5 := hidj_ (fun j (hj : j < (rowOf L).size) => (show w5.cell? ⟨g5, 0 + j, none⟩ = (rowOf L)[j]? by rw [rowOf_size] at hj; rw [Nat.zero_add, O5.out.cellz j (by rw [LL.out] at hj; exact hj), rowOf_at _ _ hj]))))
    | (refine wpList_load_sub rfl 23 _ rfl g5 0 rfl (rowOf L) C5.out _ Tryd.underlying23 rfl I.out ?_)
    | (refine wpList_put_row rfl 23 _ _ rfl (r + 1) (rowOf L) rfl rfl 23 (rowOf (zbytes 32)) R5.out I.out Q.out (bytes_one _) ?_; intro W9 k9 g9 s9))
  exact bodyPost_ret (results_cell_slot Tryd.results21 _ _ (r + 1) rfl rfl (run_loadVar_row _ _ _ _ _ (0, 0) _ k9 Tryd.underlying23 rfl I.out)) rfl ⟨rfl, by rw [HRE.out]; exact X5.out.grown g9 (by have := X5.out.size; omega) (fun k hk => by injection hk with hk; omega)⟩
end Go.Proofs.YteijlgifcmlkoaaDoor
