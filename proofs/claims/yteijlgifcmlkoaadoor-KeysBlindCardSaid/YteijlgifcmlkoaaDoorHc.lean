/-
  Contracts: keys.Nonce, whatever is asked; keys.Blind of no name; what the laws of keys begin with.
-/
import Derived.Test.YteijlgifcmlkoaaDoorHb
namespace Go.Proofs.YteijlgifcmlkoaaDoor
open Go.RowKit
set_option linter.unusedVariables false
set_option linter.unusedSimpArgs false

theorem nonce_no (w : World) (a b : Int) (h : ¬ NonceOk a b) :
    Calls Tryd.prog 22 #[.int .i64 a, .int .i64 b] w fun e w' => e = .returned (.tuple #[.agg (rowOf (zbytes 12)), .int .i64 1]) ∧ Below w.heap.size w w' := by
  unfold NonceOk at h
  by_cases h1 : a < 1
  · exact nonce_no1 w a b h1
  · by_cases h2 : 16 < a
    · exact nonce_no2 w a b (by omega) h2
    · by_cases h3 : b < 1
      · exact nonce_no3 w a b (by omega) (by omega) h3
      · exact nonce_no4 w a b (by omega) (by omega) (by omega) (by omega)
theorem zB (W : World) : (zeroValue 32).run Tryd.prog W = .ok (.agg (rowOf (zbytes 32))) W := by kernel_rfl
theorem iB_ : (Tryd.prog.info? 32).map (·.size) = some 32 := by kernel_rfl
theorem iB (l : List UInt8) (h : l.length = 32) : (Tryd.prog.info? 32).map (·.size) = some (rowOf l).size := by rw [rowOf_size, h]; exact iB_
set_option maxRecDepth 100000 in
set_option maxHeartbeats 1000000 in
theorem blind_nil (w : World) (m : List UInt8) (A : Option Addr) (c : Nat) :
    Calls Tryd.prog 11 #[.agg (rowOf m), .slice A 0 c] w fun e w' => e = .returned (.tuple #[.agg (rowOf (zbytes 32)), .int .i64 1]) ∧ Below w.heap.size w w' := by
  have hz := zB
  have BK := hidn_ (Bk.new (w.alloc (.cells (rowOf m) 23)) 32 (rowOf (zbytes 32)))
  have e1 : (w.alloc (.cells (rowOf m) 23)).heap.size = w.heap.size + 1 := by simp
  have I := hidn_ (iB (zbytes 32) (zbytes_len 32))
  have HB := hidn_ (((Below.refl w.heap.size w).alloc (Nat.le_refl _) (.cells (rowOf m) 23)).alloc (by omega) (.cells (rowOf (zbytes 32)) 32))
  rw [e1] at BK
  generalize rowOf m = M at *
  go_enter Tryd.func11, Tryd.ntmps11
  go_wp2_with (first
    | (refine wpList_built rfl 32 _ rfl (rowOf (zbytes 32)) (by kernel_rfl) ?_)
    | (refine wpList_put_row rfl 32 _ _ rfl (w.heap.size + 1) (rowOf (zbytes 32)) rfl rfl 32 (rowOf (zbytes 32)) BK.out I.out rfl (bytes_one _) ?_; intro W9 k9 g9 s9))
  exact bodyPost_ret (results_cell_slot Tryd.results11 _ _ (w.heap.size + 1) rfl rfl (run_loadVar_row _ _ _ _ _ (0, 0) _ k9 Tryd.underlying32 rfl I.out)) rfl ⟨rfl, HB.out.grown g9 HB.out.size (fun k hk => by injection hk with hk; omega)⟩
/-- All of a nonce, as a slice. -/
theorem non_all (g : Nat) (W : World) :
    (Instr.sliceAt 45 (.pointer (some ⟨g, 0, none⟩)) none none none).run Tryd.prog W = .ok (.slice (some ⟨g, 0, none⟩) 12 12) W := by
  have he : Tryd.prog.elem 45 = 5 := by kernel_rfl
  have hn : Tryd.prog.arrayLen 45 = 12 := by kernel_rfl
  have ht : Tryd.prog.underlying 45 = some (.array (Tryd.prog.arrayLen 45) (Tryd.prog.elem 45)) := by rw [he, hn]; exact Tryd.underlying45
  have hs : (sizeOf (Tryd.prog.elem 45)).run Tryd.prog W = .ok 1 W := by
    rw [he]
    obtain ⟨i, hi, hz, hsize, hby⟩ := info_parts info8
    simp [sizeOf, typeInfo, hi, hsize]
  rw [run_sliceAt_array_all W 45 ⟨g, 0, none⟩ ht, hs, hn]
  simp only [Result.andThen, slicedAt, Nat.mul_one]
  rw [if_neg (by omega)]
  congr 3
set_option maxRecDepth 100000 in
set_option maxHeartbeats 2000000 in
theorem hides_any (w : World) : Calls Tryd.prog 12 #[] w fun e w' => e = .returned (.bool true) ∧ Below w.heap.size w w' := by
  have c1 : Calls Tryd.prog 22 #[.int .i64 1, .int .i64 2] w fun e w' => e = .returned (.tuple #[.agg (rowOf (nonceB 1 2)), .int .i64 0]) ∧ Below w.heap.size w w' := nonce_yes w 1 2 (by omega) (by omega) (by omega) (by omega)
  have c2 := fun W => blind_nil W (zbytes 32) none 0
  have hz1 := z12
  have hz2 := zB
  have I12 := hidn_ (i12 (nonceB 1 2) (nonceB_len 1 2))
  have Q12 := hidn_ (show (rowOf (zbytes 12)).size = (rowOf (nonceB 1 2)).size by rw [rowOf_size, rowOf_size, nonceB_len, zbytes_len])
  have IB := hidn_ (iB (zbytes 32) (zbytes_len 32))
  have hs : strOf (nonceB 1 2) = ⟨#[0, 0, 0, 1, 0, 0, 0, 0, 0, 0, 0, 2]⟩ := by rfl
  have HS := hidn_ hs
  have hall := non_all
  obtain ⟨L, hL⟩ : ∃ L, nonceB 1 2 = L := ⟨_, rfl⟩
  have hll : Hid (L.length = 12) := hidn_ (by rw [← hL]; exact nonceB_len 1 2)
  rw [hL] at c1 I12 Q12 HS
  clear hs hL
  go_enter Tryd.func12, Tryd.ntmps12
  go_wp2_with (first
    | (go_at_call 22; ((with_reducible refine c1.mono ?_); rintro e w1 ⟨rfl, hb⟩; have B1 := hidn_ hb; clear hb))
    | (refine wpList_put_row rfl 45 _ _ rfl w1.heap.size (rowOf L) rfl rfl 45 (rowOf (zbytes 12)) (Bk.new w1 _ _) I12.out Q12.out (bytes_one _) ?_; intro w2 k2 g2 s2; have K2 := hidn_ k2; have B2 := hidn_ ((B1.out.alloc B1.out.size (.cells (rowOf (zbytes 12)) 45)).grown g2 (by have := B1.out.size; simp; omega) (fun k hk => by injection hk with hk; have := B1.out.size; omega)); clear k2 g2 s2)
    | (refine wpList_built rfl 23 _ rfl (rowOf (zbytes 32)) (by kernel_rfl) ?_)
    | (go_at_call 11; ((with_reducible refine (c2 _).mono ?_); rintro e w3 ⟨rfl, hb⟩; have K3 := hidn_ (K2.out.below hb K2.out.lt); have B3 := hidn_ (B2.out.trans (hb.mono B2.out.size)); clear hb))
    | (refine wpList_put_row rfl 32 _ _ rfl w3.heap.size (rowOf (zbytes 32)) rfl rfl 32 (rowOf (zbytes 32)) (Bk.new w3 _ _) IB.out rfl (bytes_one _) ?_; intro w4 k4 g4 s4; have K4 := hidn_ ((K3.out.alloc _).grown g4 (fun e => by injection e with e; have := K3.out.lt; omega)); have B4 := hidn_ ((B3.out.alloc B3.out.size (.cells (rowOf (zbytes 32)) 32)).grown g4 (by have := B3.out.size; simp; omega) (fun k hk => by injection hk with hk; have := B3.out.size; omega)); clear k4 g4 s4; have cv := conv_strn (K4.out.rd K4.out.lt) 12 12 hll.out; rw [HS.out] at cv))
  go_ret
  exact ⟨rfl, B4.out⟩
end Go.Proofs.YteijlgifcmlkoaaDoor
