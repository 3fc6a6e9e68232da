/-
  What a vault's calls come to where elder texts don't tell it: a real one's Blind; an Open that is refused, or too short; a real one's Open, whatever comes of it.
-/
import Derived.Test.YtmomnfhoeabdnaaDoorYJ
namespace Go.Proofs.YtmomnfhoeabdnaaDoor
set_option maxRecDepth 100000
open Go.RowKit Go.Maps
set_option linter.unusedVariables false
set_option linter.unusedSimpArgs false

set_option maxRecDepth 100000 in
set_option maxHeartbeats 4000000 in
theorem vblind_real {w : World} {v sp : Nat} {K : List UInt8} {nm kn : Option Nat} (h : Bk w v 50 (vrow false K (some sp) nm kn)) (hK : K.length = 32) (A : Option Addr) (n c : Nat) (name : List UInt8) (hn : name.length = n) (h1 : 1 ≤ n) (h64 : n ≤ 64) (hc : n ≤ c) (hcm : c ≤ 9223372036854775807) (hr : Rd w w.heap.size A name) (ht : Tab w) (hg1 : 0 < w.heap.size) :
    Calls Tryd.prog 14 #[.pointer (some ⟨v, 0, none⟩), .slice A n c] w fun e w' => e = .returned (.tuple #[.agg (rowOf (blindK K name)), .int .i64 0]) ∧ Below w.heap.size w w' := by
  have hz := zB
  obtain ⟨g, w0, hg, hw0, A0, X0, S0⟩ := vblind_start w
  have V0 := hidyb_ (h.below X0 (by have := h.lt; omega))
  have HX0 := hidyb_ X0
  have Z0 := hidyb_ A0
  have KL := hidyb_ hK
  rw [hg] at hg1
  have T0 : Tab w0 := fun t h => (X0.cell (p := ⟨_, t, none⟩) hg1).trans (ht t h)
  have R0 := hidyb_ (((hg ▸ hr).below X0).more (show g ≤ w0.heap.size by omega))
  have I32 := hidyb_ (ib32 K hK)
  have BL := hidyb_ (blindK_len K name)
  have IA := hidyb_ (iB (blindK K name) BL.out)
  have QA := hidyb_ (show (rowOf (zbytes 32)).size = (rowOf (blindK K name)).size by rw [rowOf_size, rowOf_size, BL.out, zbytes_len])
  have CK : Hid (∀ j, j < (rowOf K).size → w0.cell? ⟨v, 1 + j, none⟩ = (rowOf K)[j]?) := hidyb_ (fun j hj => by
    rw [V0.out.cell (1 + j)]
    exact vrow_k false K KL.out _ _ _ j (by rw [rowOf_size, KL.out] at hj; exact hj))
  have ck := blind_yes w0 K hK A n c name hn h1 h64 hc hcm R0.out T0 (by omega)
  have cm := made_yes V0.out hK
  have HG := hidyb_ hg
  generalize blindK K name = b0 at *
  clear h hK X0 A0 hn T0 ht hr h1 h64 hc hcm
  go_enter Tryd.func14, Tryd.ntmps14
  go_wp2_with (first
    | (go_at_call 28; ((with_reducible refine cm.mono ?_); clear cm; rintro e w' ⟨rfl, rfl⟩))
    | (refine wpList_load_sub rfl 25 (.tmp 15) rfl v 1 rfl (rowOf K) CK.out _ Tryd.underlying25 rfl I32.out ?_)
    | (go_at_call 29; ((with_reducible refine ck.mono ?_); clear ck; rintro e w2 ⟨rfl, hb⟩; have B2 := hidyb_ hb; clear hb))
    | (refine wpList_put_row rfl 36 (.tmp 6) (.tmp 19) rfl w2.heap.size (rowOf b0) rfl rfl 36 (rowOf (zbytes 32)) (Bk.new w2 _ _) IA.out QA.out (bytes_one _) ?_; intro w3 k3 g3 s3; have BX : Below w2.heap.size w2 w3 := (((Below.refl w2.heap.size w2).alloc (Nat.le_refl _) (.cells (rowOf (zbytes 32)) 36)).grown g3 (by simp) (fun k hk => by injection hk with hk; omega)); have K3 := hidyb_ k3; have B3 := hidyb_ (B2.out.trans (BX.mono B2.out.size)); have Y0 := hidyb_ (Z0.out.below B3.out Z0.out.lt); have c3 := ((V0.out.below B3.out V0.out.lt).cell 0).trans (vrow_0 _ _ _ _ _); have HX3 := hidyb_ (HX0.out.trans (B3.out.mono (by omega))); clear k3 g3 s3 BX)
    | (refine wpList_load_row rfl 36 (.tmp 6) rfl w2.heap.size rfl 36 (rowOf b0) (0, 0) _ K3.out Tryd.underlying36 rfl IA.out ?_)
    | (refine wpList_put_row rfl 36 (.tmp 4) (.tmp 30) rfl g (rowOf b0) rfl rfl 36 (rowOf (zbytes 32)) Y0.out IA.out QA.out (bytes_one _) ?_; intro w7 k8 g7 s7; have k8h := hidyb_ k8; have HX7 := hidyb_ (HX3.out.grown g7 (by have := HX3.out.size; omega) (fun k hk => by injection hk with hk; omega)); clear k8 g7 s7))
  exact bodyPost_ret (results_cell_slot Tryd.results14 _ _ g rfl rfl (run_loadVar_row _ _ _ _ _ (0, 0) _ k8h.out Tryd.underlying36 rfl IA.out)) rfl ⟨rfl, HG.out ▸ HX7.out⟩
end Go.Proofs.YtmomnfhoeabdnaaDoor
