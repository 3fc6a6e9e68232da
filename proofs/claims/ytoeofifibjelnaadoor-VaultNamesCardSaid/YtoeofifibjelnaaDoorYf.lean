/-
  An ideal vault's Blind.
-/
import Derived.Test.YtoeofifibjelnaaDoorYe
namespace Go.Proofs.YtoeofifibjelnaaDoor
set_option maxRecDepth 100000
open Go.RowKit Go.Maps
set_option linter.unusedVariables false
set_option linter.unusedSimpArgs false

section
variable {w w1 w2 : World} {F F' : List Nat}
theorem Untouched.thenB (h : Untouched F w w1) (hb : Below w1.heap.size w1 w2) : Untouched F w w2 := h.trans (Grew.refl _ _) (.of_below hb)
theorem Untouched.thenG (h : Untouched F w w1) {g : Nat} (hg : w1.grownBy w2 (some g)) (hw : w.heap.size ≤ g) : Untouched F w w2 :=
  ⟨hg.os.trans h.os, hg.tape.trans h.tape, hg.output.trans h.output, Nat.le_trans h.size hg.size, fun k hk hn => (hg.block k (Nat.lt_of_lt_of_le hk h.size) (fun e => by injection e with e; omega)).trans (h.block k hk hn)⟩
theorem VltI.grownG {v sp nm kn : Nat} {K : List UInt8} {N : List (List UInt8)} {S : List (Nat × Nat)} {L : List SealV} (h : VltI w v sp nm kn K N S L F) {g : Nat} (hg : w.grownBy w1 (some g)) (hF : g ∉ F) : VltI w1 v sp nm kn K N S L F :=
  h.keep (fun k hk => hg.block k (h.hF k hk) (fun e => by injection e with e; subst e; exact hF hk)) hg.size
end
theorem vblind_start (w : World) : ∃ g w0, w.heap.size = g ∧ w.alloc (.cells (rowOf (zbytes 32)) 31) = w0 ∧ Bk w0 g 31 (rowOf (zbytes 32)) ∧ Below g w w0 ∧ w0.heap.size = g + 1 :=
  ⟨_, _, rfl, rfl, Bk.new w _ _, (Below.refl _ _).alloc (Nat.le_refl _) _, by simp⟩
theorem kblind_no (w : World) (m : List UInt8) (A : Option Addr) (n c : Nat) (h : n = 0 ∨ 64 < n) :
    Calls Tryd.prog 16 #[.agg (rowOf m), .slice A n c] w fun e w' => e = .returned (.tuple #[.agg (rowOf (zbytes 32)), .int .i64 1]) ∧ Below w.heap.size w w' := by
  rcases h with rfl | h
  · exact blind_nil w m A c
  · exact blind_big w m A n c h
set_option maxRecDepth 100000 in
set_option maxHeartbeats 4000000 in
theorem vblind_no {w : World} {v sp : Nat} {id : Bool} {K : List UInt8} {nm kn : Option Nat} (h : Bk w v 50 (vrow id K (some sp) nm kn)) (hK : K.length = 32) (A : Option Addr) (n c : Nat) (hn : n = 0 ∨ 64 < n) :
    Calls Tryd.prog 10 #[.pointer (some ⟨v, 0, none⟩), .slice A n c] w fun e w' => e = .returned (.tuple #[.agg (rowOf (zbytes 32)), .int .i64 1]) ∧ Below w.heap.size w w' := by
  have hz := zB
  obtain ⟨g, w0, hg, hw0, A0, X0, S0⟩ := vblind_start w
  have V0 := hidyb_ (h.below X0 (by have := h.lt; omega))
  have HX0 := hidyb_ X0
  have Z0 := hidyb_ A0
  have KL := hidyb_ hK
  have I32 := hidyb_ (ib32 K hK)
  have IB := hidyb_ (iB (zbytes 32) (zbytes_len 32))
  have CK : Hid (∀ j, j < (rowOf K).size → w0.cell? ⟨v, 1 + j, none⟩ = (rowOf K)[j]?) := hidyb_ (fun j hj => by
    rw [V0.out.cell (1 + j)]
    exact vrow_k id K KL.out _ _ _ j (by rw [rowOf_size, KL.out] at hj; exact hj))
  have ck := kblind_no w0 K A n c hn
  have cm := made_yes V0.out hK
  have HG := hidyb_ hg
  clear h hK X0 A0 hn
  go_enter Tryd.func10, Tryd.ntmps10
  go_wp2_with (first
    | (go_at_call 15; ((with_reducible refine cm.mono ?_); clear cm; rintro e w' ⟨rfl, rfl⟩))
    | (refine wpList_load_sub rfl 22 (.tmp 15) rfl v 1 rfl (rowOf K) CK.out _ Tryd.underlying22 rfl I32.out ?_)
    | (go_at_call 16; ((with_reducible refine ck.mono ?_); clear ck; rintro e w2 ⟨rfl, hb⟩; have B2 := hidyb_ hb; clear hb))
    | (refine wpList_put_row rfl 31 (.tmp 6) (.tmp 19) rfl w2.heap.size (rowOf (zbytes 32)) rfl rfl 31 (rowOf (zbytes 32)) (Bk.new w2 _ _) IB.out rfl (bytes_one _) ?_; intro w3 k3 g3 s3; have BX : Below w2.heap.size w2 w3 := (((Below.refl w2.heap.size w2).alloc (Nat.le_refl _) (.cells (rowOf (zbytes 32)) 31)).grown g3 (by simp) (fun k hk => by injection hk with hk; omega)); have K3 := hidyb_ k3; have B3 := hidyb_ (B2.out.trans (BX.mono B2.out.size)); have Y0 := hidyb_ (Z0.out.below B3.out Z0.out.lt); have HX3 := hidyb_ (HX0.out.trans (B3.out.mono (by omega))); clear k3 g3 s3 BX)
    | (refine wpList_load_row rfl 31 (.tmp 6) rfl w2.heap.size rfl 31 (rowOf (zbytes 32)) (0, 0) _ K3.out Tryd.underlying31 rfl IB.out ?_)
    | (refine wpList_put_row rfl 31 (.tmp 4) (.tmp 30) rfl g (rowOf (zbytes 32)) rfl rfl 31 (rowOf (zbytes 32)) Y0.out IB.out rfl (bytes_one _) ?_; intro w7 k8 g7 s7; have k8h := hidyb_ k8; have HX7 := hidyb_ (HX3.out.grown g7 (by have := HX3.out.size; omega) (fun k hk => by injection hk with hk; omega)); clear k8 g7 s7))
  exact bodyPost_ret (results_cell_slot Tryd.results10 _ _ g rfl rfl (run_loadVar_row _ _ _ _ _ (0, 0) _ k8h.out Tryd.underlying31 rfl IB.out)) rfl ⟨rfl, HG.out ▸ HX7.out⟩
set_option maxRecDepth 100000 in
set_option maxHeartbeats 4000000 in
theorem vblind_yes {w : World} {v sp nm kn : Nat} {K : List UInt8} {N : List (List UInt8)} {S : List (Nat × Nat)} {L : List SealV} {F : List Nat} (h : VltI w v sp nm kn K N S L F) (A : Option Addr) (n c : Nat) (name : List UInt8) (hn : name.length = n) (h1 : 1 ≤ n) (h64 : n ≤ 64) (hc : n ≤ c) (hcm : c ≤ 9223372036854775807) (hr : Rd w w.heap.size A name) (hN : N.length ≤ 100000) (ht : Tab w) (hg1 : 1 < w.heap.size) :
    Calls Tryd.prog 10 #[.pointer (some ⟨v, 0, none⟩), .slice A n c] w fun e w' => e = .returned (.tuple #[.agg (rowOf (drawB K 0 (ordN N name) 24)), .int .i64 0]) ∧ LeavesI w w' v sp nm kn K (addNm N name) S L F F := by
  have hz := zB
  obtain ⟨g, w0, hg, hw0, A0, X0, S0⟩ := vblind_start w
  have hK := h.len
  have V0 := hidyb_ (h.below (by rw [hg]; exact X0))
  have HX0 := hidyb_ X0
  have Z0 := hidyb_ A0
  have KL := hidyb_ hK
  have HF : Hid (∀ k ∈ F, k < g) := hidyb_ (fun k hk => by rw [← hg]; exact h.hF k hk)
  rw [hg] at hg1
  have T0 : Tab w0 := fun t h => (X0.cell (p := ⟨_, t, none⟩) hg1).trans (ht t h)
  have R0 := hidyb_ (((hg ▸ hr).below X0).more (show g ≤ w0.heap.size by omega))
  have I32 := hidyb_ (ib32 K hK)
  obtain ⟨D, hD⟩ : ∃ D, drawB K 0 (ordN N name) 24 = D := ⟨_, rfl⟩
  have DL := hidyb_ (show D.length = 32 by rw [← hD, drawB_len])
  have BL := hidyb_ (blindK_len K name)
  have IB := hidyb_ (iB D DL.out)
  have IA := hidyb_ (iB (blindK K name) BL.out)
  have QA := hidyb_ (show (rowOf (zbytes 32)).size = (rowOf (blindK K name)).size by rw [rowOf_size, rowOf_size, BL.out, zbytes_len])
  have QD := hidyb_ (show (rowOf (zbytes 32)).size = (rowOf D).size by rw [rowOf_size, rowOf_size, DL.out, zbytes_len])
  have CK : Hid (∀ j, j < (rowOf K).size → w0.cell? ⟨v, 1 + j, none⟩ = (rowOf K)[j]?) := hidyb_ (fun j hj => by
    rw [V0.out.blk.cell (1 + j)]
    exact vrow_k true K KL.out _ _ _ j (by rw [rowOf_size, KL.out] at hj; exact hj))
  have ck := blind_yes w0 K hK A n c name hn h1 h64 hc hcm R0.out T0 (by omega)
  have cm := made_yes V0.out.blk hK
  have HG := hidyb_ hg
  have NL := hidyb_ hn
  have NB := hidyb_ hN
  have ON := hidyb_ (show ordN N name ≤ 1000000 by unfold ordN; have := List.idxOf_le_length (l := N) (a := name); omega)
  have H64 := hidyb_ h64
  have hat : ∀ (A : Option Addr) (c : Nat) (W : World), (Instr.arrayAt 31 (.slice A 32 c)).run Tryd.prog W = .ok (.pointer A) W := fun A c W => run_arrayAt W 31 5 32 A 32 c Tryd.underlying31 (Nat.le_refl _)
  generalize blindK K name = b0 at *
  rw [hD]
  have HD := hidyb_ hD
  clear hD
  clear h hK X0 A0 hn T0 ht hr h1 h64 hc hcm hN
  go_enter Tryd.func10, Tryd.ntmps10
  go_upto_region 6 with (first
    | (go_at_call 15; ((with_reducible refine cm.mono ?_); clear cm; rintro e w' ⟨rfl, rfl⟩))
    | (refine wpList_load_sub rfl 22 (.tmp 15) rfl v 1 rfl (rowOf K) CK.out _ Tryd.underlying22 rfl I32.out ?_)
    | (go_at_call 16; ((with_reducible refine ck.mono ?_); clear ck; rintro e w2 ⟨rfl, hb⟩; have B2 := hidyb_ hb; clear hb))
    | (refine wpList_put_row rfl 31 (.tmp 6) (.tmp 19) rfl w2.heap.size (rowOf b0) rfl rfl 31 (rowOf (zbytes 32)) (Bk.new w2 _ _) IA.out QA.out (bytes_one _) ?_; intro w3 k3 g3 s3; have BX : Below w2.heap.size w2 w3 := (((Below.refl w2.heap.size w2).alloc (Nat.le_refl _) (.cells (rowOf (zbytes 32)) 31)).grown g3 (by simp) (fun k hk => by injection hk with hk; omega)); have B3 := hidyb_ (B2.out.trans (BX.mono B2.out.size)); have V3 := hidyb_ (V0.out.below B3.out); have Y0 := hidyb_ (Z0.out.below B3.out Z0.out.lt); have c3 := (V3.out.blk.cell 0).trans (vrow_0 _ _ _ _ _); clear k3 g3 s3 BX))
  clear c3
  have U3 := hidyb_ ((Untouched.of_below (F := F) (hg ▸ HX0.out)).thenB B3.out)
  have R3 := hidyb_ ((R0.out.below B3.out).more B3.out.size)
  have co := ordinal_any V3.out A n c name NL.out R3.out (by have := H64.out; omega) (by have := NB.out; omega)
  go_wp2_with (first
    | (go_at_call 18; ((with_reducible refine co.mono ?_); clear co; rintro e w4 ⟨rfl, hl⟩; have V4 := hidyb_ hl.1; have U4 := hidyb_ (U3.out.trans (Grew.refl _ _) hl.2.2); have Y4 := hidyb_ (Y0.out.untouched hl.2.2 (fun hm => by have := HF.out _ hm; omega)); clear hl))
    | (go_at_call 17; have cd : Calls Tryd.prog 17 #[.pointer (some ⟨v, 0, none⟩), .int .i64 0, .int .i64 ((ordN N name : Nat) : Int), .int .i64 32] w4 (NewP w4 (8 + 24) (drawB K 0 (ordN N name) 24)) := draw_any V4.out.blk KL.out 0 (ordN N name) 24 (by omega) (by have := ON.out; omega) (by omega); rw [HD.out] at cd; ((with_reducible refine cd.mono ?_); clear cd; rintro e w5 ⟨A5, c5, rfl, ho, hb⟩; obtain ⟨g5, rfl⟩ := ho.block_ (by omega); have O5 := hidyb_ ho; have V5 := hidyb_ (V4.out.below hb); have U5 := hidyb_ (U4.out.thenB hb); have Y5 := hidyb_ (Y4.out.below hb Y4.out.lt); have C5 := hidyb_ (fun j (hj : j < (rowOf D).size) => (show w5.cell? ⟨g5, 0 + j, none⟩ = (rowOf D)[j]? by rw [rowOf_size] at hj; rw [Nat.zero_add, ho.cellz j (by rw [DL.out] at hj; exact hj), rowOf_at _ _ hj])); clear ho hb))
    | (refine wpList_load_sub rfl 31 (.tmp 37) rfl g5 0 rfl (rowOf D) C5.out _ Tryd.underlying31 rfl IB.out ?_)
    | (refine wpList_put_row rfl 31 (.tmp 4) (.tmp 38) rfl g (rowOf D) rfl rfl 31 (rowOf (zbytes 32)) Y5.out IB.out QD.out (bytes_one _) ?_; intro w7 k8 g7 s7; have k8h := hidyb_ k8; have V7 := hidyb_ (V5.out.grownG g7 (fun hm => by have := HF.out _ hm; omega)); have U7 := hidyb_ (U5.out.thenG g7 (by rw [HG.out]; exact Nat.le_refl _)); clear k8 g7 s7))
  exact bodyPost_ret (results_cell_slot Tryd.results10 _ _ g rfl rfl (run_loadVar_row _ _ _ _ _ (0, 0) _ k8h.out Tryd.underlying31 rfl IB.out)) rfl ⟨rfl, V7.out, Grew.refl _ _, U7.out⟩
end Go.Proofs.YtoeofifibjelnaaDoor
