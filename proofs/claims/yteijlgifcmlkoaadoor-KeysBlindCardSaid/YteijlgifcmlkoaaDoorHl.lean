/-
  expands answers true.
-/
import Derived.Test.YteijlgifcmlkoaaDoorHk
namespace Go.Proofs.YteijlgifcmlkoaaDoor
open Go.ChangeShapes Go.WideShapes Go.ChangeAt Go.RowKit
set_option linter.unusedVariables false
set_option linter.unusedSimpArgs false

set_option maxRecDepth 100000 in
set_option maxHeartbeats 8000000 in
theorem expands_any (w : World) (ht : Tab w) (hg1 : 1 < w.heap.size) :
    Calls Tryd.prog 8 #[] w fun e w' => e = .returned (.bool true) ∧ Below w.heap.size w w' := by
  have HT := hidj_ ht
  have k1 := fun (W : World) (C : Array Value) (n c : Nat) => Lib.run_convert_bytes_const (P := Tryd.prog) W 22 5 C n c Tryd.underlying22 Tryd.underlying5
  have k2 : ∀ (W : World) (C : Array Value) (n c g : Nat) (hg : W.heap.size = g), (convert 22 22 (.slice (some ⟨g, 0, none⟩) n c)).run Tryd.prog (W.alloc (.cells C 5)) = .ok (.slice (some ⟨g, 0, none⟩) n c) (W.alloc (.cells C 5 (C.size, C.size + 1))) := fun W C n c g hg => by subst hg; exact k1 W C n c
  have k3 := k2 (w.alloc (.cells #[.int .u8 107] 5 (1, 2))) #[.int .u8 117] 1 1 (w.heap.size + 1) (by simp)
  obtain ⟨wa, hwa⟩ : ∃ wa, w.alloc (.cells #[.int .u8 107] 5 (1, 2)) = wa := ⟨_, rfl⟩
  have sa : wa.heap.size = w.heap.size + 1 := by rw [← hwa]; simp
  have Ba : Below w.heap.size w wa := by rw [← hwa]; exact (Below.refl _ _).alloc (Nat.le_refl _) _
  have Ra : Rd wa (w.heap.size + 1) (some ⟨w.heap.size, 0, none⟩) [107] := by rw [← hwa]; exact rd_mark w [107] (1, 2)
  have Rb : Rd (wa.alloc (.cells (rowOf [117]) 5 (1, 2))) (wa.heap.size + 1) (some ⟨wa.heap.size, 0, none⟩) [117] := rd_mark wa [117] (1, 2)
  have Bb : Below w.heap.size w (wa.alloc (.cells (rowOf [117]) 5 (1, 2))) := Ba.alloc (by omega) _
  have Rc := Ra.alloc (by omega) (.cells (rowOf [117]) 5 (1, 2))
  obtain ⟨L, hL⟩ : ∃ L, expandB [107] [117] 40 = L := ⟨_, rfl⟩
  have LL := hidj_ (show L.length = 40 by rw [← hL]; exact expandB_len _ _ _ (by omega))
  have ce : Calls Tryd.prog 7 #[.slice (some ⟨w.heap.size, 0, none⟩) 1 1, .slice (some ⟨wa.heap.size, 0, none⟩) 1 1, .int .i64 40] (wa.alloc (.cells (rowOf [117]) 5 (1, 2))) (ExpP (wa.alloc (.cells (rowOf [117]) 5 (1, 2))) (expandB [107] [117] 40)) :=
    expand_any _ (some ⟨w.heap.size, 0, none⟩) 1 1 [107] rfl (by omega) (by omega) (by omega) (Rc.more (by simp <;> omega)) (some ⟨wa.heap.size, 0, none⟩) 1 1 [117] rfl (by omega) (by omega) (by omega) (Rb.more (by simp)) 40 (by omega) (fun t h => (Bb.cell (p := ⟨_, t, none⟩) hg1).trans (HT.out t h)) (Nat.lt_of_lt_of_le hg1 Bb.size)
  have cr : ∀ W, Calls Tryd.prog 10 #[.string ⟨#[107]⟩, .string ⟨#[117]⟩, .int .i64 40] W fun e w' => e = .returned (.string (strOf (expandB [107] [117] 40))) ∧ Below W.heap.size W w' := fun W => refExpand_any W [107] [117] (by simp) (by simp) 40 (by omega)
  rw [hL] at ce
  have cr' : ∀ W, Calls Tryd.prog 10 #[.string ⟨#[107]⟩, .string ⟨#[117]⟩, .int .i64 40] W fun e w' => e = .returned (.string (strOf L)) ∧ Below W.heap.size W w' := by rw [← hL]; exact cr
  clear hL cr
  have cn := fun W => expand_no W none 0 0 none 0 0 8161 (.inr (by decide))
  have hrow : rowOf [117] = #[Value.int .u8 117] := rfl
  have BP := hidj_ Bb
  rw [hrow] at ce BP
  rw [sa] at ce
  clear Bb hrow ht Ra Rb Rc
  go_enter Tryd.func8, Tryd.ntmps8
  go_upto_region 3 with (first
    | (go_at_call 7; ((with_reducible refine ce.mono ?_); rintro e w2 ⟨A1, c1, rfl, ho, hb⟩; rw [LL.out] at ho ⊢; have O2 := hidj_ ho; have B2 := hidj_ (BP.out.trans (hb.mono BP.out.size)); clear hb ho ce))
    | (go_at_call 7; ((with_reducible refine (cn _).mono ?_); rintro e w3 ⟨rfl, hb⟩; have B3 := hidj_ (B2.out.trans (hb.mono B2.out.size)); have O3 := hidj_ (O2.out.below hb (Nat.le_refl _)); clear hb)))
  have V1 : Hid (∀ W : World, Below w3.heap.size w3 W → (convert 22 9 (.slice A1 40 c1)).run Tryd.prog W = .ok (.string (strOf L)) W) := hidj_ (fun W h => conv_strn (O3.out.rd.1.below h) 40 c1 LL.out)
  have P1 : Hid (∀ W : World, Below w3.heap.size w3 W → Calls Tryd.prog 10 #[.string ⟨#[107]⟩, .string ⟨#[117]⟩, .int .i64 40] W fun e w' => e = .returned (.string (strOf L)) ∧ Below w3.heap.size w3 w') := hidj_ (fun W h => (cr' W).mono fun e w' hh => ⟨hh.1, h.trans (hh.2.mono h.size)⟩)
  have q1 := strOf_eq L L rfl
  clear cr' cn k1 k2 k3
  refine region_quiet_in (C := fun W => Below w3.heap.size w3 W) (by kernel_rfl) (by kernel_rfl) ((Below.refl _ _).drew) ?_
  repeat (first | go_big_quiet_skip | (go_big_quiet_want; (first
    | (refine BigFrame.quiet_move _ rfl ?_; go_simp)
    | (refine BigFrame.quiet_assign _ rfl ?_; go_simp)
    | (refine quiet_run (.int .i64 40) ?_ ?_; (focus (intro W hW; go_simp; done)); go_simp)
    | (refine quiet_run (.string (strOf L)) ?_ ?_; (focus (intro W hW; have h := V1.out W hW; go_simp; done)); go_simp)
    | (refine quiet_call (.string (strOf L)) 10 #[.string ⟨#[107]⟩, .string ⟨#[117]⟩, .int .i64 40] ?_ P1.out ?_; (focus (intro W; go_simp; done)); go_simp)
    | (refine quiet_run (.bool true) ?_ ?_; (focus (intro W hW; go_simp; done)); go_simp)); go_big_quiet_on))
  refine wpQuiet_nil ?_
  intro w6 hw6
  have X6 : Hid (Below w.heap.size w w6) := hidj_ (B3.out.trans (Below.mono hw6 B3.out.size))
  clear hw6 V1 P1
  go_wp2
  go_ret
  exact ⟨rfl, X6.out⟩
end Go.Proofs.YteijlgifcmlkoaaDoor
