/-
  A disk: Read.
-/
import Derived.Test.YtibnfldddpmafaaDkc
namespace Go.Proofs.Ytibnfldddpmafaa
open Go.RowKit
set_option linter.unusedVariables false
set_option linter.unusedSimpArgs false

theorem results_cell_slotK {P : Program} {fn : Func} {p q : Tmp} {ty : TypeId} (h : fn.results = #[.cell p ty, .tmp q]) (tmps : Array Value) (w : World) (g : Nat) {v v' : Value}
    (hp : tmps.getD p undef = .pointer (some ⟨g, 0, none⟩)) (hq : tmps.getD q undef = v')
    (h1 : (loadVar ty ⟨g, 0, none⟩).run P w = .ok v w) :
    (results fn tmps).run P w = .ok (.tuple #[v, v']) w := by
  have hp' : tmps[p]?.getD undef = .pointer (some ⟨g, 0, none⟩) := by simpa using hp
  have hq' : tmps[q]?.getD undef = v' := by simpa using hq
  simp [results, h, hp', hq', asAddr, h1]
theorem results_cellK {P : Program} {fn : Func} {p : Tmp} {ty : TypeId} (h : fn.results = #[.cell p ty]) (tmps : Array Value) (w : World) (g : Nat) {v : Value}
    (hp : tmps.getD p undef = .pointer (some ⟨g, 0, none⟩)) (h1 : (loadVar ty ⟨g, 0, none⟩).run P w = .ok v w) :
    (results fn tmps).run P w = .ok v w := by
  have hp' : tmps[p]?.getD undef = .pointer (some ⟨g, 0, none⟩) := by simpa using hp
  simp [results, h, hp', asAddr, h1]
theorem zsec_len : zsec.length = 64 := by simp [zsec]
theorem iSec (D : List UInt8) (h : D.length = 64) : (Try.prog.info? 27).map (·.size) = some (rowOf D).size := by
  rw [rowOf_size, h]
  kernel_rfl
theorem zeroSec (W : World) : (zeroValue 27).run Try.prog W = .ok (.agg (rowOf zsec)) W := by kernel_rfl
theorem built_sec0 : Try.prog.built 27 [] = some (rowOf zsec) := by kernel_rfl
section
variable {b0 : Nat} {w : World} {p q n : Nat} {F : List (List UInt8)} {R : List WrV} {v : Value} {fu : Nat} {off : Bool}
theorem getD_mem64 {S : List (List UInt8)} (hS : ∀ D ∈ S, D.length = 64) (k : Nat) (hk : k < S.length) : (S.getD k []).length = 64 := by
  have e : S.getD k [] = S[k] := by simp [List.getD, hk]
  rw [e]
  exact hS _ (List.getElem_mem hk)
/-- A sector's cells. -/
theorem DkV.sec (h : DkV b0 w p q n F R v fu off) (k : Nat) (hk : k < n) : ((appl F R).getD k []).length = 64 ∧ ∀ j, j < (rowOf ((appl F R).getD k [])).size → w.cell? ⟨q, k * 64 + j, none⟩ = (rowOf ((appl F R).getD k []))[j]? := by
  have hk' : k < (appl F R).length := by rw [appl_len, h.hF]; exact hk
  have h64 := getD_mem64 h.app64 k hk'
  refine ⟨h64, fun j hj => ?_⟩
  rw [rowOf_size, h64] at hj
  have e : (appl F R).getD k [] = (appl F R)[k] := by simp [List.getD, hk']
  rw [h.bq.cell, List.getElem?_toArray, flatC_at _ k j hk' (fun x hx => by rw [rowOf_size]; exact h.app64 x hx) hj, e]
/-- What Read tells. -/
def readD (n : Nat) (F : List (List UInt8)) (R : List WrV) (off : Bool) (z : Int) : List UInt8 := if hasE n off z = 0 then (appl F R).getD z.toNat [] else zsec
set_option maxRecDepth 100000 in
set_option maxHeartbeats 4000000 in
theorem dread_any (h : DkI b0 w p q n F R fu off) (z : Int) : Calls Try.prog 10 #[.pointer (some ⟨p, 0, none⟩), .int .i64 z] w fun e w' => e = .returned (.tuple #[.agg (rowOf (readD n F R off z)), .int .i64 (hasE n off z)]) ∧ Below w.heap.size w w' := by
  obtain ⟨w1, hw1⟩ : ∃ W, w.alloc (.cells (rowOf zsec) 27) = W := ⟨_, rfl⟩
  have b1 : Below w.heap.size w w1 := by rw [← hw1]; exact (Below.refl _ _).alloc (Nat.le_refl _) _
  have K1 := hidD_ (show Bk w1 w.heap.size 27 (rowOf zsec) by rw [← hw1]; exact Bk.new w _ _)
  have h1 := h.below b1
  have ci := dhas_any h1 z
  have hz := zeroSec w
  have B1 := hidD_ b1
  obtain ⟨g, hg⟩ : ∃ g, w.heap.size = g := ⟨_, rfl⟩
  obtain ⟨er, her⟩ : ∃ er, hasE n off z = er := ⟨_, rfl⟩
  unfold readD
  rw [her] at ci ⊢
  by_cases h0 : er = 0
  · subst h0
    rw [if_pos rfl]
    have hb : 0 ≤ z ∧ z < (n : Int) := by
      unfold hasE at her
      split at her
      · cases her
      · split at her
        · cases her
        · omega
    obtain ⟨k, rfl⟩ : ∃ k : Nat, z = (k : Int) := ⟨z.toNat, by omega⟩
    rw [show ((k : Int)).toNat = k from rfl]
    obtain ⟨v, hv⟩ := h1
    obtain ⟨c0, _, _, _⟩ := hv.cells
    obtain ⟨h64, hcs⟩ := hv.sec k (by omega)
    generalize (appl F R).getD k [] = D at h64 hcs
    have HC := hidD_ hcs
    have HI := hidD_ (iSec D h64)
    have t0 : (0 : Int) ≤ (k : Int) := hb.1
    have tn : (k : Int) < (n : Int) := hb.2
    clear h her hb b1 hv hcs
    rw [hg] at K1 B1
    go_enter Try.func10, Try.ntmps10
    go_wp2_with (first
      | (go_at_call 27; ((with_reducible refine ci.mono ?_); clear ci; rintro e w' ⟨rfl, rfl⟩))
      | (refine wpList_load_sub rfl 27 (.tmp 19) rfl q (k * 64) rfl (rowOf D) HC.out _ Try.underlying27 rfl HI.out ?_)
      | (refine wpList_put_row rfl 27 (.tmp 4) (.tmp 20) rfl g (rowOf D) rfl rfl 27 (rowOf zsec) K1.out HI.out (by rw [rowOf_size, rowOf_size, h64]; rfl) (bytes_one _) ?_; intro w9 k9 g9 s9; have K9 := hidD_ k9; have G9 := hidD_ g9; clear k9 g9 s9))
    exact bodyPost_ret (results_cell_slotK Try.results10 _ _ g rfl rfl (run_loadVar_row _ _ _ _ _ (0, 0) _ K9.out Try.underlying27 rfl HI.out)) rfl ⟨rfl, by rw [hg]; exact B1.out.grown G9.out (by have := B1.out.size; omega) (fun k e => by injection e with e; omega)⟩
  · rw [if_neg h0]
    have d0 : (er == 0) = false := by simpa using h0
    have HI := hidD_ (iSec zsec zsec_len)
    clear h her b1 h1 h0
    rw [hg] at K1 B1
    go_enter Try.func10, Try.ntmps10
    go_wp2_with (first
      | (go_at_call 27; ((with_reducible refine ci.mono ?_); clear ci; rintro e w' ⟨rfl, rfl⟩))
      | (refine wpList_built rfl 27 #[] rfl (rowOf zsec) built_sec0 ?_)
      | (refine wpList_put_row rfl 27 (.tmp 4) (.tmp 12) rfl g (rowOf zsec) rfl rfl 27 (rowOf zsec) K1.out HI.out rfl (bytes_one _) ?_; intro w9 k9 g9 s9; have K9 := hidD_ k9; have G9 := hidD_ g9; clear k9 g9 s9))
    exact bodyPost_ret (results_cell_slotK Try.results10 _ _ g rfl rfl (run_loadVar_row _ _ _ _ _ (0, 0) _ K9.out Try.underlying27 rfl HI.out)) rfl ⟨rfl, by rw [hg]; exact B1.out.grown G9.out (by have := B1.out.size; omega) (fun k e => by injection e with e; omega)⟩
set_option maxRecDepth 100000 in
set_option maxHeartbeats 4000000 in
theorem dread_nil (w : World) (z : Int) : Calls Try.prog 10 #[.pointer none, .int .i64 z] w fun e w' => e = .returned (.tuple #[.agg (rowOf zsec), .int .i64 1]) ∧ Below w.heap.size w w' := by
  obtain ⟨w1, hw1⟩ : ∃ W, w.alloc (.cells (rowOf zsec) 27) = W := ⟨_, rfl⟩
  have b1 : Below w.heap.size w w1 := by rw [← hw1]; exact (Below.refl _ _).alloc (Nat.le_refl _) _
  have K1 := hidD_ (show Bk w1 w.heap.size 27 (rowOf zsec) by rw [← hw1]; exact Bk.new w _ _)
  have ci := dhas_nil w1 z
  have hz := zeroSec w
  have B1 := hidD_ b1
  obtain ⟨g, hg⟩ : ∃ g, w.heap.size = g := ⟨_, rfl⟩
  have HI := hidD_ (iSec zsec zsec_len)
  clear b1
  rw [hg] at K1 B1
  go_enter Try.func10, Try.ntmps10
  go_wp2_with (first
    | (go_at_call 27; ((with_reducible refine ci.mono ?_); clear ci; rintro e w' ⟨rfl, rfl⟩))
    | (refine wpList_built rfl 27 #[] rfl (rowOf zsec) built_sec0 ?_)
    | (refine wpList_put_row rfl 27 (.tmp 4) (.tmp 12) rfl g (rowOf zsec) rfl rfl 27 (rowOf zsec) K1.out HI.out rfl (bytes_one _) ?_; intro w9 k9 g9 s9; have K9 := hidD_ k9; have G9 := hidD_ g9; clear k9 g9 s9))
  exact bodyPost_ret (results_cell_slotK Try.results10 _ _ g rfl rfl (run_loadVar_row _ _ _ _ _ (0, 0) _ K9.out Try.underlying27 rfl HI.out)) rfl ⟨rfl, by rw [hg]; exact B1.out.grown G9.out (by have := B1.out.size; omega) (fun k e => by injection e with e; omega)⟩
end
end Go.Proofs.Ytibnfldddpmafaa
