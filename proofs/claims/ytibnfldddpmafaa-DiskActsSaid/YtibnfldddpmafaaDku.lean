/-
  The document's disk: Image.
-/
import Derived.Test.YtibnfldddpmafaaDkt
namespace Go.Proofs.Ytibnfldddpmafaa
open Go.RowKit
set_option linter.unusedVariables false
set_option linter.unusedSimpArgs false

theorem slice_all64K (g : Nat) (W : World) :
    (Instr.sliceAt 26 (.pointer (some ⟨g, 0, none⟩)) none none none).run Try.prog W = .ok (.slice (some ⟨g, 0, none⟩) 64 64) W := by
  have he : Try.prog.elem 26 = 5 := by kernel_rfl
  have hn : Try.prog.arrayLen 26 = 64 := by kernel_rfl
  have ht : Try.prog.underlying 26 = some (.array (Try.prog.arrayLen 26) (Try.prog.elem 26)) := by rw [he, hn]; exact Try.underlying26
  have hs : ∀ W : World, (sizeOf (Try.prog.elem 26)).run Try.prog W = .ok 1 W := fun W => by
    rw [he]
    obtain ⟨i, hi, hz, hsize, hby⟩ := info_parts info8
    simp [sizeOf, typeInfo, hi, hsize]
  rw [run_sliceAt_array_all W 26 ⟨g, 0, none⟩ ht, hs, hn]
  rfl
section
variable {b0 : Nat} {w : World} {p q n : Nat} {F : List (List UInt8)} {R : List WrV} {fu : Nat} {off : Bool}
set_option maxRecDepth 100000 in
set_option maxHeartbeats 4000000 in
theorem rimage_any (h : RfI b0 w p q n F R fu off) (hm : R.length ≤ 1000000) : Calls Try.prog 24 #[.pointer (some ⟨p, 0, none⟩)] w fun e w' => e = .returned (.string (strOf (appl F R).flatten)) ∧ Below w.heap.size w w' := by
  have HH := hidD_ h
  obtain ⟨v, hv⟩ := h
  have HS64 := hidD_ (show ∀ D ∈ appl F R, D.length = 64 from appl_all R F hv.F64 fun x hx => (hv.hR x hx).2)
  have HN := hidD_ (show (appl F R).length = n by rw [appl_len]; exact hv.hF)
  have hn2 := hv.n2
  have hsee : ∀ W, Below w.heap.size w W → ∀ k, k < n → Calls Try.prog 30 #[.pointer (some ⟨p, 0, none⟩), .int .i64 (k : Int)] W fun e w' => e = .returned (.agg (rowOf ((appl F R).getD k []))) ∧ Below W.heap.size W w' := fun W hb k hk => see_any (HH.out.below hb) hm k hk
  have HSEE := hidD_ hsee
  have HC0 := hidD_ (fun W (hb : Below w.heap.size w W) => (hb.cell (p := ⟨p, 0, none⟩) hv.bp.lt).trans hv.cells.1)
  clear hv hsee HH hm
  generalize appl F R = S at *
  go_enter Try.func24, Try.ntmps24
  go_wp2
  go_loopw [3, 4] (fun v i wr => ∃ (j nl : Nat) (A' : Option Addr) (c' : Nat), j ≤ n ∧ Hid (nl = j * 64) ∧ i = .int .i64 j ∧ v = .slice A' nl c' ∧ Hid (Own8 wr w.heap.size (.slice A' nl c') (S.take j).flatten) ∧ Hid (Below w.heap.size w wr)) (fun _ i _ => n - (intOf i).toNat)
  case atStart => exact ⟨0, 0, none, 0, Nat.zero_le _, hidD_ rfl, rfl, rfl, Own8.nil_ _ _, Below.refl _ _⟩
  case round =>
    obtain ⟨j, nl, A', c', hj, hnl, rfl, rfl, HV, HBW⟩ := hrel
    have cp := HC0.out wr HBW.out
    by_cases hlt : j < n
    · have hjS : j < S.length := by rw [HN.out]; exact hlt
      have h64 := getD_mem64 HS64.out j hjS
      have cs := HSEE.out wr HBW.out j hlt
      have HST := hidD_ (flat_take j hjS)
      have HLN := hidD_ (show (S.take j).flatten.length = nl by rw [flat_len (fun D hD => HS64.out D (List.mem_of_mem_take hD)), List.length_take, HN.out, hnl.out]; congr 1; omega)
      generalize S.getD j [] = D at h64 cs HST
      have HI := hidD_ (i64K D h64)
      have HD := hidD_ h64
      have hz := zero64K
      have hsl := slice_all64K
      have t0 : (0 : Int) ≤ (j : Int) := by omega
      have tn : (j : Int) < (n : Int) := by omega
      have hn8 : n ≤ 8192 := hn2
      have d1 : decide ((j : Int) < (n : Int)) = true := decide_eq_true tn
      clear h64 hjS
      go_wp2_with (first
        | (go_at_call 30; ((with_reducible refine cs.mono ?_); clear cs; rintro e w2 ⟨rfl, hb⟩; have B2 := hidD_ hb; clear hb; (obtain ⟨g, hg⟩ : ∃ g, w2.heap.size = g := ⟨_, rfl⟩); have HG := hidD_ hg; (obtain ⟨wa, hwa⟩ : ∃ W, w2.alloc (.cells (rowOf zsec) 26) = W := ⟨_, rfl⟩); have KA := hidD_ (show Bk wa g 26 (rowOf zsec) by rw [← hwa, ← hg]; exact Bk.new w2 _ _); have BA := hidD_ (show Below w2.heap.size w2 wa by rw [← hwa]; exact (Below.refl _ _).alloc (Nat.le_refl _) _)))
        | (refine wpList_put_row rfl 26 (.tmp 5) (.tmp 17) rfl g (rowOf D) rfl rfl 26 (rowOf zsec) KA.out HI.out (by rw [rowOf_size, rowOf_size, HD.out]; rfl) (bytes_one _) ?_; intro w9 k9 g9 s9; have K9 := hidD_ k9; have X9 := hidD_ (B2.out.trans ((BA.out.grown g9 BA.out.size (fun k e => by injection e with e; have := HG.out; omega)).mono B2.out.size)); clear k9 g9 s9)
        | (at_builtin; refine wpList_appN rfl (.tmp 18) (.tmp 19) rfl (HV.out.below X9.out (Nat.le_refl _)) rfl 64 64 rfl (K9.out.rd K9.out.lt) HD.out nl HLN.out (by have := hnl.out; omega) (Nat.le_trans HBW.out.size X9.out.size) ?_; intro A6 c6 w6 k1 k2; have K1 := hidD_ k1; have K2 := hidD_ ((HBW.out.trans (X9.out.mono HBW.out.size)).grown k2 (Nat.le_trans HBW.out.size X9.out.size) (fun g e => (HV.out.lt g e).1)); clear k1 k2))
      go_roundw
      case rel => exact ⟨j + 1, nl + 64, A6, c6, by omega, hidD_ (by have := hnl.out; omega), by go_num, rfl, hidD_ (by rw [HST.out]; exact K1.out), K2⟩
      case measure => simp [intOf]; omega
    · obtain rfl : j = n := by omega
      have d3 : ¬ (j : Int) < (j : Int) := by omega
      have HT := hidD_ (show S.take j = S from List.take_of_length_le (by rw [HN.out]; omega))
      rw [HT.out] at HV
      have hcv : (convert 36 9 (.slice A' nl c')).run Try.prog wr = .ok (.string (strOf S.flatten)) wr := by
        have hr := HV.out.rd
        exact conv_strn hr.1 nl c' (by rw [flat_len HS64.out, HN.out]; exact hnl.out.symm)
      go_wp2
      go_ret
      exact ⟨rfl, HBW.out⟩
end
end Go.Proofs.Ytibnfldddpmafaa
