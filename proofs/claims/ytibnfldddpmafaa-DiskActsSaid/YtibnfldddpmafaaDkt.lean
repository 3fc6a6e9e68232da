/-
  The document's disk: DocSync, DocCrash.
-/
import Derived.Test.YtibnfldddpmafaaDks
namespace Go.Proofs.Ytibnfldddpmafaa
open Go.RowKit
set_option linter.unusedVariables false
set_option linter.unusedSimpArgs false

def RsR (p q n k r c g at_ : Nat) (Y : List UInt8) : Nat → Value → Prop
  | 0, v => v = .pointer (some ⟨p, 0, none⟩)
  | 1, v => v = .pointer (some ⟨p, 0, none⟩)
  | 2, v => v = .pointer (some ⟨p, 0, none⟩)
  | 3, v => v = .slice (some ⟨q, 0, none⟩) n n
  | 4, v => v = .pointer (some ⟨p, 0, none⟩)
  | 5, v => v = .pointer (some ⟨p, 0, none⟩)
  | 6, v => v = .pointer (some ⟨p, 1, none⟩)
  | 7, v => v = .slice (some ⟨g, 0, none⟩) r c
  | 8, v => v = .int .i64 (k : Int)
  | 9, v => v = .pointer (some ⟨g, k * 65, none⟩)
  | 10, v => v = .pointer (some ⟨g, k * 65, none⟩)
  | 11, v => v = .int .i64 (at_ : Int)
  | 12, v => v = .pointer (some ⟨p, 0, none⟩)
  | 13, v => v = .pointer (some ⟨p, 0, none⟩)
  | 14, v => v = .pointer (some ⟨p, 1, none⟩)
  | 15, v => v = .slice (some ⟨g, 0, none⟩) r c
  | 16, v => v = .int .i64 (k : Int)
  | 17, v => v = .pointer (some ⟨g, k * 65, none⟩)
  | 18, v => v = .pointer (some ⟨g, k * 65 + 1, none⟩)
  | 19, v => v = .agg (rowOf Y)
  | 20, v => v = .pointer (some ⟨q, at_ * 64, none⟩)
  | _, _ => True
def dpsP : Nat → List Nat
  | 1 => [0]
  | 2 => [1]
  | 3 => [2]
  | 5 => [4]
  | 6 => [5]
  | 7 => [6]
  | 9 => [7, 8]
  | 10 => [9]
  | 11 => [10]
  | 13 => [12]
  | 14 => [13]
  | 15 => [14]
  | 17 => [15, 16]
  | 18 => [17]
  | 19 => [18]
  | 20 => [3, 11]
  | 21 => [20, 19]
  | _ => []
section
variable {b0 : Nat} {w : World} {p q n : Nat} {F : List (List UInt8)} {R : List WrV} {fu : Nat} {off : Bool}
set_option maxRecDepth 100000 in
set_option maxHeartbeats 1000000 in
theorem rsync_off (h : RfI b0 w p q n F R fu true) : Calls Try.prog 22 #[.pointer (some ⟨p, 0, none⟩)] w fun e w' => e = .returned (.int .i64 9) ∧ w = w' := by
  obtain ⟨v, h⟩ := h
  obtain ⟨_, _, _, c3⟩ := h.cells
  clear h
  go_enter Try.func22, Try.ntmps22
  go_wp2
  go_ret
  exact ⟨rfl, rfl⟩
set_option maxRecDepth 100000 in
set_option maxHeartbeats 2000000 in
theorem rsync_burn (h : RfI b0 w p q n F R 1 false) : Calls Try.prog 22 #[.pointer (some ⟨p, 0, none⟩)] w (RfP b0 w p q n F R 0 true (.int .i64 9)) := by
  have cb := rburn_any h
  rw [show burnO 1 false = true from rfl] at cb
  obtain ⟨v, h⟩ := h
  obtain ⟨_, _, _, c3⟩ := h.cells
  clear h
  go_enter Try.func22, Try.ntmps22
  go_wp2_with (go_at_call 31; ((with_reducible refine cb.mono ?_); clear cb; rintro e w' ⟨rfl, h⟩; have H := hidD_ h; clear h))
  go_ret
  exact ⟨rfl, H.out⟩
set_option maxRecDepth 100000 in
set_option maxHeartbeats 8000000 in
theorem rsync_ok (h : RfI b0 w p q n F R fu false) (hb0 : b0 ≤ w.heap.size) (hm : R.length ≤ 1000000) (hf : fu ≠ 1) : Calls Try.prog 22 #[.pointer (some ⟨p, 0, none⟩)] w (RfP b0 w p q n (appl F R) [] (fu - 1) false (.int .i64 0)) := by
  have cb := rburn_any h
  rw [show burnO fu false = false by simp [burnO, hf]] at cb
  obtain ⟨v0, h⟩ := h
  obtain ⟨_, _, _, c3⟩ := h.cells
  have HB0 := hidD_ hb0
  obtain ⟨r, hr⟩ : ∃ r, R.length = r := ⟨_, rfl⟩
  have HR := hidD_ hr
  rw [hr] at hm
  clear h hr
  go_enter Try.func22, Try.ntmps22
  go_wp2_with (go_at_call 31; ((with_reducible refine cb.mono ?_); clear cb; rintro e w1 ⟨rfl, ⟨v, h1⟩, h2, h3⟩; have H1 := hidD_ h1; have X1 := hidD_ h2; have U1 := hidD_ h3; clear h1 h2 h3))
  obtain ⟨A, c, rfl⟩ := H1.out.form
  rw [HR.out] at H1
  go_loopw [3] (fun i wr => ∃ k : Nat, k ≤ r ∧ i = .int .i64 k ∧ Hid (RfV b0 wr p q n (appl F (R.take k)) R (.slice A r c) (fu - 1) false) ∧ Hid (Below b0 w wr) ∧ Hid (UnT rfT w wr)) (fun i _ => r - (intOf i).toNat)
  case atStart => exact ⟨0, Nat.zero_le _, rfl, hidD_ (by rw [List.take_zero]; exact H1.out), X1, U1⟩
  case round =>
    obtain ⟨k, hk, rfl, HRV, HBW, HUW⟩ := hrel
    obtain ⟨e0, e1, _, _⟩ := HRV.out.cells
    by_cases hlt : k < r
    · clear c3
      have hkR : k < R.length := by rw [HR.out]; exact hlt
      obtain ⟨g, c', hA, hgl, hcs, hx1, hx2⟩ := HRV.out.loose_at k hkR
      obtain ⟨⟨at_, Y⟩, hx⟩ : ∃ z, R[k] = z := ⟨_, rfl⟩
      rw [hx] at hcs hx1 hx2
      simp only at hx1 hx2
      injection hA with hA1 hA2 hA3
      subst hA1
      obtain ⟨q0, q1⟩ := lsR_cells (at_, Y) hx2
      have HI := hidD_ (i64K Y hx2)
      have HY := hidD_ hx2
      have t0 : (0 : Int) ≤ (k : Int) := by omega
      have tn : (k : Int) < (r : Int) := by omega
      have d1 : decide ((k : Int) < (r : Int)) = true := decide_eq_true tn
      have HNX := hidD_ (show (appl F (R.take k)).set at_ Y = appl F (R.take (k + 1)) by rw [List.take_succ_eq_append_getElem hkR, appl_snoc, hx])
      go_upto_region 6 with fail
      clear d1 e0 e1
      obtain ⟨wd, hwd⟩ : ∃ W3, { wr with drawn := wr.drawn + 1 } = W3 := ⟨_, rfl⟩
      have bd : Below wr.heap.size wr wd := by rw [← hwd]; exact (Below.refl _ _).drew
      have HO := hidD_ (HRV.out.below bd)
      have HBX := hidD_ (HBW.out.trans (bd.mono (by have := HBW.out.size; have := HB0.out; omega)))
      have HUX := hidD_ (HUW.out.trans (UnT.of_below bd))
      have HAT := hidD_ (show wd.cell? ⟨g, k * 65, none⟩ = some (.int .i64 (at_ : Int)) by
        have h1 := (bd.cell (p := ⟨g, k * 65 + 0, none⟩) hgl).trans ((hcs 0 (by omega)).trans q0)
        rw [Nat.add_zero] at h1
        exact h1)
      have HCY := hidD_ (fun i (hi : i < (rowOf Y).size) => by
        have h1 := (bd.cell (p := ⟨g, k * 65 + (1 + i), none⟩) hgl).trans (hcs (1 + i) (by rw [rowOf_size, hx2] at hi; omega))
        rw [← Nat.add_assoc] at h1
        exact h1.trans (q1 i hi))
      have hSl : at_ < (appl F (R.take k)).length := by rw [HRV.out.hF]; exact hx1
      have HSET := hidD_ (sec_set HRV.out.F64 at_ hSl Y hx2)
      have HSZ := hidD_ (sec_size HRV.out.F64 at_ hSl Y hx2)
      have t1 : (0 : Int) ≤ (at_ : Int) := by omega
      have tn1 : (at_ : Int) < (n : Int) := by omega
      have HWD := hidD_ hwd
      clear hcs hx1 hx2 q0 q1 hx hwd bd hSl hA2 hA3
      refine region_byJF [21, 22, 23, 24, 25, 26, 27, 28, 29, 30, 31, 32, 33, 34, 35, 36, 37, 38, 39, 40, 41] (fun _ => True) (fun _ _ => True) (fun jj v _ => RsR p q n k r c g at_ Y jj v) (fun D2 a W => PhJ dpsP 21 (fun W => W = wd) (fun W => W = wd.setRow q (flatC rowOf ((appl F (R.take k)).set at_ Y)).toArray) D2 a W) (by kernel_rfl) (by kernel_rfl) (by kernel_rfl) (by kernel_rfl) (fun j v w w' hT hr => ?_) (fun j v w hlt hj _ => ?_) trivial ?_ (by rw [HWD.out]; exact PhJ.start rfl) ?_
      · exact hr
      · rcases j with _ | _ | _ | _ | _ | _ | _ | _ | _ | _ | _ | _ | _ | _ | _ | _ | _ | _ | _ | _ | _ | _ | j
        all_goals first
          | (exfalso; simp [dstOf] at hj; done)
          | trivial
      · refine ⟨fun D2 a W hC hd hsz hf hv hJ hL hW K hK => ?_, fun D2 a W hC hd hsz hf hv hJ hL hW K hK => ?_, fun D2 a W hC hd hsz hf hv hJ hL hW K hK => ?_, fun D2 a W hC hd hsz hf hv hJ hL hW K hK => ?_, fun D2 a W hC hd hsz hf hv hJ hL hW K hK => ?_, fun D2 a W hC hd hsz hf hv hJ hL hW K hK => ?_, fun D2 a W hC hd hsz hf hv hJ hL hW K hK => ?_, fun D2 a W hC hd hsz hf hv hJ hL hW K hK => ?_, fun D2 a W hC hd hsz hf hv hJ hL hW K hK => ?_, fun D2 a W hC hd hsz hf hv hJ hL hW K hK => ?_, fun D2 a W hC hd hsz hf hv hJ hL hW K hK => ?_, fun D2 a W hC hd hsz hf hv hJ hL hW K hK => ?_, fun D2 a W hC hd hsz hf hv hJ hL hW K hK => ?_, fun D2 a W hC hd hsz hf hv hJ hL hW K hK => ?_, fun D2 a W hC hd hsz hf hv hJ hL hW K hK => ?_, fun D2 a W hC hd hsz hf hv hJ hL hW K hK => ?_, fun D2 a W hC hd hsz hf hv hJ hL hW K hK => ?_, fun D2 a W hC hd hsz hf hv hJ hL hW K hK => ?_, fun D2 a W hC hd hsz hf hv hJ hL hW K hK => ?_, fun D2 a W hC hd hsz hf hv hJ hL hW K hK => ?_, fun D2 a W hC hd hsz hf hv hJ hL hW K hK => ?_, fun D2 a W hC hd hsz hf hv hJ hL hW K hK => ?_, trivial⟩
        · clear hsz
          have e1 := slot_of (a := a) (s := 0) (v := .pointer (some ⟨p, 0, none⟩)) (hf 0 (by kernel_rfl))
          refine step_run (wanted_none rfl) (v := .pointer (some ⟨p, 0, none⟩)) (w' := W) ?_ (hK _ _ trivial trivial rfl (hJ.same 0 (by decide) ls0))
          go_simp
        · clear hsz
          have e1 := slot_of (a := a) (s := 21) (v := .pointer (some ⟨p, 0, none⟩)) (hv 0 (by kernel_rfl))
          refine step_run (wanted_none rfl) (v := .pointer (some ⟨p, 0, none⟩)) (w' := W) ?_ (hK _ _ trivial trivial rfl (hJ.same 1 (by decide) (ls1 (hW 0 (by kernel_rfl)))))
          go_simp
        · clear hsz
          have e1 := slot_of (a := a) (s := 22) (v := .pointer (some ⟨p, 0, none⟩)) (hv 1 (by kernel_rfl))
          refine step_run (wanted_none rfl) (v := .pointer (some ⟨p, 0, none⟩)) (w' := W) ?_ (hK _ _ trivial trivial rfl (hJ.same 2 (by decide) (ls1 (hW 1 (by kernel_rfl)))))
          go_simp
        · clear hsz
          have e1 := slot_of (a := a) (s := 23) (v := .pointer (some ⟨p, 0, none⟩)) (hv 2 (by kernel_rfl))
          have hw := hJ.get 3 [20, 21] rfl rfl hL
          subst hw
          have cc := HO.out.bp.cell 0
          simp only [List.getElem?_toArray, List.getElem?_cons_zero, List.getElem?_cons_succ] at cc
          refine step_run (wanted_none rfl) (v := .slice (some ⟨q, 0, none⟩) n n) (w' := W) ?_ (hK _ _ trivial trivial rfl (hJ.same 3 (by decide) (ls1 (hW 2 (by kernel_rfl)))))
          go_simp
        · clear hsz
          have e1 := slot_of (a := a) (s := 0) (v := .pointer (some ⟨p, 0, none⟩)) (hf 0 (by kernel_rfl))
          refine step_run (wanted_none rfl) (v := .pointer (some ⟨p, 0, none⟩)) (w' := W) ?_ (hK _ _ trivial trivial rfl (hJ.same 4 (by decide) ls0))
          go_simp
        · clear hsz
          have e1 := slot_of (a := a) (s := 25) (v := .pointer (some ⟨p, 0, none⟩)) (hv 4 (by kernel_rfl))
          refine step_run (wanted_none rfl) (v := .pointer (some ⟨p, 0, none⟩)) (w' := W) ?_ (hK _ _ trivial trivial rfl (hJ.same 5 (by decide) (ls1 (hW 4 (by kernel_rfl)))))
          go_simp
        · clear hsz
          have e1 := slot_of (a := a) (s := 26) (v := .pointer (some ⟨p, 0, none⟩)) (hv 5 (by kernel_rfl))
          refine step_run (wanted_none rfl) (v := .pointer (some ⟨p, 1, none⟩)) (w' := W) ?_ (hK _ _ trivial trivial rfl (hJ.same 6 (by decide) (ls1 (hW 5 (by kernel_rfl)))))
          go_simp
        · clear hsz
          have e1 := slot_of (a := a) (s := 27) (v := .pointer (some ⟨p, 1, none⟩)) (hv 6 (by kernel_rfl))
          have hw := hJ.get 7 [9, 10, 11, 20, 21] rfl rfl hL
          subst hw
          have cc := HO.out.bp.cell 1
          simp only [List.getElem?_toArray, List.getElem?_cons_zero, List.getElem?_cons_succ] at cc
          refine step_run (wanted_none rfl) (v := .slice (some ⟨g, 0, none⟩) r c) (w' := W) ?_ (hK _ _ trivial trivial rfl (hJ.same 7 (by decide) (ls1 (hW 6 (by kernel_rfl)))))
          go_simp
        · clear hsz
          have e1 := slot_of (a := a) (s := 3) (v := .int .i64 (k : Int)) (hf 3 (by kernel_rfl))
          refine step_run (wanted_none rfl) (v := .int .i64 (k : Int)) (w' := W) ?_ (hK _ _ trivial trivial rfl (hJ.same 8 (by decide) ls0))
          go_simp
        · clear hsz
          have e1 := slot_of (a := a) (s := 28) (v := .slice (some ⟨g, 0, none⟩) r c) (hv 7 (by kernel_rfl))
          have e2 := slot_of (a := a) (s := 29) (v := .int .i64 (k : Int)) (hv 8 (by kernel_rfl))
          refine step_run (wanted_none rfl) (v := .pointer (some ⟨g, k * 65, none⟩)) (w' := W) ?_ (hK _ _ trivial trivial rfl (hJ.same 9 (by decide) (ls2 (hW 7 (by kernel_rfl)) (hW 8 (by kernel_rfl)))))
          go_simp
        · clear hsz
          have e1 := slot_of (a := a) (s := 30) (v := .pointer (some ⟨g, k * 65, none⟩)) (hv 9 (by kernel_rfl))
          refine step_run (wanted_none rfl) (v := .pointer (some ⟨g, k * 65, none⟩)) (w' := W) ?_ (hK _ _ trivial trivial rfl (hJ.same 10 (by decide) (ls1 (hW 9 (by kernel_rfl)))))
          go_simp
        · clear hsz
          have e1 := slot_of (a := a) (s := 31) (v := .pointer (some ⟨g, k * 65, none⟩)) (hv 10 (by kernel_rfl))
          have hw := hJ.get 11 [20, 21] rfl rfl hL
          subst hw
          have cc := HAT.out
          refine step_run (wanted_none rfl) (v := .int .i64 (at_ : Int)) (w' := W) ?_ (hK _ _ trivial trivial rfl (hJ.same 11 (by decide) (ls1 (hW 10 (by kernel_rfl)))))
          go_simp
        · clear hsz
          have e1 := slot_of (a := a) (s := 0) (v := .pointer (some ⟨p, 0, none⟩)) (hf 0 (by kernel_rfl))
          refine step_run (wanted_none rfl) (v := .pointer (some ⟨p, 0, none⟩)) (w' := W) ?_ (hK _ _ trivial trivial rfl (hJ.same 12 (by decide) ls0))
          go_simp
        · clear hsz
          have e1 := slot_of (a := a) (s := 33) (v := .pointer (some ⟨p, 0, none⟩)) (hv 12 (by kernel_rfl))
          refine step_run (wanted_none rfl) (v := .pointer (some ⟨p, 0, none⟩)) (w' := W) ?_ (hK _ _ trivial trivial rfl (hJ.same 13 (by decide) (ls1 (hW 12 (by kernel_rfl)))))
          go_simp
        · clear hsz
          have e1 := slot_of (a := a) (s := 34) (v := .pointer (some ⟨p, 0, none⟩)) (hv 13 (by kernel_rfl))
          refine step_run (wanted_none rfl) (v := .pointer (some ⟨p, 1, none⟩)) (w' := W) ?_ (hK _ _ trivial trivial rfl (hJ.same 14 (by decide) (ls1 (hW 13 (by kernel_rfl)))))
          go_simp
        · clear hsz
          have e1 := slot_of (a := a) (s := 35) (v := .pointer (some ⟨p, 1, none⟩)) (hv 14 (by kernel_rfl))
          have hw := hJ.get 15 [17, 18, 19, 21] rfl rfl hL
          subst hw
          have cc := HO.out.bp.cell 1
          simp only [List.getElem?_toArray, List.getElem?_cons_zero, List.getElem?_cons_succ] at cc
          refine step_run (wanted_none rfl) (v := .slice (some ⟨g, 0, none⟩) r c) (w' := W) ?_ (hK _ _ trivial trivial rfl (hJ.same 15 (by decide) (ls1 (hW 14 (by kernel_rfl)))))
          go_simp
        · clear hsz
          have e1 := slot_of (a := a) (s := 3) (v := .int .i64 (k : Int)) (hf 3 (by kernel_rfl))
          refine step_run (wanted_none rfl) (v := .int .i64 (k : Int)) (w' := W) ?_ (hK _ _ trivial trivial rfl (hJ.same 16 (by decide) ls0))
          go_simp
        · clear hsz
          have e1 := slot_of (a := a) (s := 36) (v := .slice (some ⟨g, 0, none⟩) r c) (hv 15 (by kernel_rfl))
          have e2 := slot_of (a := a) (s := 37) (v := .int .i64 (k : Int)) (hv 16 (by kernel_rfl))
          refine step_run (wanted_none rfl) (v := .pointer (some ⟨g, k * 65, none⟩)) (w' := W) ?_ (hK _ _ trivial trivial rfl (hJ.same 17 (by decide) (ls2 (hW 15 (by kernel_rfl)) (hW 16 (by kernel_rfl)))))
          go_simp
        · clear hsz
          have e1 := slot_of (a := a) (s := 38) (v := .pointer (some ⟨g, k * 65, none⟩)) (hv 17 (by kernel_rfl))
          refine step_run (wanted_none rfl) (v := .pointer (some ⟨g, k * 65 + 1, none⟩)) (w' := W) ?_ (hK _ _ trivial trivial rfl (hJ.same 18 (by decide) (ls1 (hW 17 (by kernel_rfl)))))
          go_simp
        · clear hsz
          have hw := hJ.get 19 [21] rfl rfl hL
          subst hw
          refine step_load_sub (wanted_none rfl) 26 (.tmp 39) rfl g (k * 65 + 1) (eval_of (hv 18 (by kernel_rfl))) (rowOf Y) HCY.out _ Try.underlying26 rfl HI.out ?_
          exact hK _ _ trivial trivial rfl (hJ.same 19 (by decide) (ls1 (hW 18 (by kernel_rfl))))
        · clear hsz
          have e1 := slot_of (a := a) (s := 24) (v := .slice (some ⟨q, 0, none⟩) n n) (hv 3 (by kernel_rfl))
          have e2 := slot_of (a := a) (s := 32) (v := .int .i64 (at_ : Int)) (hv 11 (by kernel_rfl))
          refine step_run (wanted_none rfl) (v := .pointer (some ⟨q, at_ * 64, none⟩)) (w' := W) ?_ (hK _ _ trivial trivial rfl (hJ.same 20 (by decide) (ls2 (hW 3 (by kernel_rfl)) (hW 11 (by kernel_rfl)))))
          go_simp
        · clear hsz
          have hw := hJ.old hL
          subst hw
          refine step_store_mid (wanted_none rfl) 26 (.tmp 41) (.tmp 40) rfl q (at_ * 64) (eval_of (hv 20 (by kernel_rfl))) (rowOf Y) (eval_of (hv 19 (by kernel_rfl))) 26 _ HO.out.bq HI.out HSZ.out (rowOf_ones _) ?_
          rw [HSET.out]
          exact hK undef _ trivial trivial trivial (hJ.store (ls2 (hW 20 (by kernel_rfl)) (hW 19 (by kernel_rfl))) rfl)
      · intro f wy hC5 hv5 L3 hL3 hJ3
        obtain ⟨aE, hJ, hfr⟩ := hJ3
        have e5 := hJ.fin (hL3 21 (by decide))
        subst e5
        obtain ⟨r1, r2, r3⟩ := HO.out.put (by have := HBX.out.size; have := HB0.out; omega) at_ Y HY.out
        rw [HNX.out] at r1 r2 r3 ⊢
        have C3 := hidD_ r1
        have X3 := hidD_ (HBX.out.trans r2)
        have U3 := hidD_ (HUX.out.trans r3)
        simp only [framed, List.foldl_cons, List.foldl_nil, List.setIfInBounds_toArray, List.set_cons_succ, List.set_cons_zero]
        clear hv5 hC5 hJ hfr hL3 r1 r2 r3
        rename_i Kd hKd
        refine hKd _ _ ?_
        generalize wd.setRow q (flatC rowOf (appl F (R.take (k + 1)))).toArray = wy at *
        go_wp2
        go_roundw
        case rel => exact ⟨k + 1, by omega, by go_num, C3, X3, U3⟩
        case measure => simp [intOf]; omega
    · obtain rfl : k = r := by omega
      have d3 : ¬ (k : Int) < (k : Int) := by omega
      have f1 := HRV.out.bp.frozen 1
      have HT : R.take k = R := List.take_of_length_le (by rw [HR.out]; omega)
      rw [HT] at HRV
      have Z := hidD_ HRV.out.loose_
      have PZ := hidD_ (Bk.putD (b0 := b0) (T := rfT) HRV.out.bp HRV.out.hp (by simp [rfT]) 1 (.slice none 0 0))
      clear HT
      go_wp2
      go_ret
      exact ⟨rfl, ⟨_, Z.out⟩, HBW.out.trans PZ.out.1, HUW.out.trans PZ.out.2⟩
set_option maxRecDepth 100000 in
set_option maxHeartbeats 8000000 in
theorem rcrash_any (h : RfI b0 w p q n F R fu off) (hb0 : b0 ≤ w.heap.size) (hm : R.length ≤ 1000000) (A0 : Option Addr) (ns c0 : Nat) (S : List Bool) (hns : S.length = ns)
    (hst : ∀ W, Below b0 w W → UnT rfT w W → ∀ j, j < ns → ∃ blk o, A0 = some ⟨blk, o, none⟩ ∧ W.cell? ⟨blk, o + j, none⟩ = some (.bool (S.getD j false))) :
    Calls Try.prog 23 #[.pointer (some ⟨p, 0, none⟩), .slice A0 ns c0] w fun e w' => e = .returned (.tuple #[]) ∧ RfI b0 w' p q n (appl F (kept R S)) [] 0 false ∧ Below b0 w w' ∧ UnT rfT w w' := by
  obtain ⟨v, h⟩ := h
  obtain ⟨A, c, rfl⟩ := h.form
  obtain ⟨r, hr⟩ : ∃ r, R.length = r := ⟨_, rfl⟩
  have HB0 := hidD_ hb0
  have HR := hidD_ hr
  have HST := hidD_ hst
  have H1 := hidD_ (show RfV b0 w p q n F R (.slice A r c) fu off by rw [← hr]; exact h)
  rw [hr] at hm
  clear h hst hr
  go_enter Try.func23, Try.ntmps23
  go_wp2
  go_loopw [4] (fun i wr => ∃ k : Nat, k ≤ r ∧ i = .int .i64 k ∧ Hid (RfV b0 wr p q n (appl F (kept (R.take k) S)) R (.slice A r c) fu off) ∧ Hid (Below b0 w wr) ∧ Hid (UnT rfT w wr)) (fun i _ => r - (intOf i).toNat)
  case atStart => exact ⟨0, Nat.zero_le _, rfl, hidD_ (by rw [List.take_zero, kept_nil]; exact H1.out), hidD_ (Below.refl _ _), hidD_ (UnT.refl _ _)⟩
  case round =>
    obtain ⟨k, hk, rfl, HRV, HBW, HUW⟩ := hrel
    obtain ⟨e0, e1, _, _⟩ := HRV.out.cells
    by_cases hlt : k < r
    · by_cases hkn : k < ns
      · obtain ⟨blk, o, hA0, hcb⟩ := HST.out wr HBW.out HUW.out k hkn
        subst hA0
        have hkR : k < R.length := by rw [HR.out]; exact hlt
        obtain ⟨g, c', hA, hgl, hcs, hx1, hx2⟩ := HRV.out.loose_at k hkR
        obtain ⟨⟨at_, Y⟩, hx⟩ : ∃ z, R[k] = z := ⟨_, rfl⟩
        rw [hx] at hcs hx1 hx2
        simp only at hx1 hx2
        injection hA with hA1 hA2 hA3
        subst hA1
        obtain ⟨q0, q1⟩ := lsR_cells (at_, Y) hx2
        have HI := hidD_ (i64K Y hx2)
        have HY := hidD_ hx2
        have t0 : (0 : Int) ≤ (k : Int) := by omega
        have tn : (k : Int) < (r : Int) := by omega
        have d1 : decide ((k : Int) < (r : Int)) = true := decide_eq_true tn
        have HKT := hidD_ (kept_take R S k hkR)
        rw [hx] at HKT
        obtain ⟨bo, hbo⟩ : ∃ b, S.getD k false = b := ⟨_, rfl⟩
        rw [hbo] at hcb HKT
        have d2 : decide ((k : Int) < (ns : Int)) = true := decide_eq_true (by omega)
        have tns : (k : Int) < (ns : Int) := by omega
        cases bo with
        | true =>
          have HNX := hidD_ (show (appl F (kept (R.take k) S)).set at_ Y = appl F (kept (R.take (k + 1)) S) by rw [HKT.out, if_pos rfl, appl_snoc])
          clear hbo
          go_upto_region 4 with fail
          clear d1 d2 tns e0 e1 hcb
          obtain ⟨wd, hwd⟩ : ∃ W3, { wr with drawn := wr.drawn + 1 } = W3 := ⟨_, rfl⟩
          have bd : Below wr.heap.size wr wd := by rw [← hwd]; exact (Below.refl _ _).drew
          have HO := hidD_ (HRV.out.below bd)
          have HBX := hidD_ (HBW.out.trans (bd.mono (by have := HBW.out.size; have := HB0.out; omega)))
          have HUX := hidD_ (HUW.out.trans (UnT.of_below bd))
          have HAT := hidD_ (show wd.cell? ⟨g, k * 65, none⟩ = some (.int .i64 (at_ : Int)) by
            have h1 := (bd.cell (p := ⟨g, k * 65 + 0, none⟩) hgl).trans ((hcs 0 (by omega)).trans q0)
            rw [Nat.add_zero] at h1
            exact h1)
          have HCY := hidD_ (fun i (hi : i < (rowOf Y).size) => by
            have h1 := (bd.cell (p := ⟨g, k * 65 + (1 + i), none⟩) hgl).trans (hcs (1 + i) (by rw [rowOf_size, hx2] at hi; omega))
            rw [← Nat.add_assoc] at h1
            exact h1.trans (q1 i hi))
          have hSl : at_ < (appl F (kept (R.take k) S)).length := by rw [HRV.out.hF]; exact hx1
          have HSET := hidD_ (sec_set HRV.out.F64 at_ hSl Y hx2)
          have HSZ := hidD_ (sec_size HRV.out.F64 at_ hSl Y hx2)
          have t1 : (0 : Int) ≤ (at_ : Int) := by omega
          have tn1 : (at_ : Int) < (n : Int) := by omega
          have HWD := hidD_ hwd
          clear hcs hx1 hx2 q0 q1 hx hwd bd hSl hA2 hA3
          refine region_byJF [24, 25, 26, 27, 28, 29, 30, 31, 32, 33, 34, 35, 36, 37, 38, 39, 40, 41, 42, 43, 44] (fun _ => True) (fun _ _ => True) (fun jj v _ => RsR p q n k r c g at_ Y jj v) (fun D2 a W => PhJ dpsP 21 (fun W => W = wd) (fun W => W = wd.setRow q (flatC rowOf ((appl F (kept (R.take k) S)).set at_ Y)).toArray) D2 a W) (by kernel_rfl) (by kernel_rfl) (by kernel_rfl) (by kernel_rfl) (fun j v w w' hT hr => ?_) (fun j v w hlt hj _ => ?_) trivial ?_ (by rw [HWD.out]; exact PhJ.start rfl) ?_
          · exact hr
          · rcases j with _ | _ | _ | _ | _ | _ | _ | _ | _ | _ | _ | _ | _ | _ | _ | _ | _ | _ | _ | _ | _ | _ | j
            all_goals first
              | (exfalso; simp [dstOf] at hj; done)
              | trivial
          · refine ⟨fun D2 a W hC hd hsz hf hv hJ hL hW K hK => ?_, fun D2 a W hC hd hsz hf hv hJ hL hW K hK => ?_, fun D2 a W hC hd hsz hf hv hJ hL hW K hK => ?_, fun D2 a W hC hd hsz hf hv hJ hL hW K hK => ?_, fun D2 a W hC hd hsz hf hv hJ hL hW K hK => ?_, fun D2 a W hC hd hsz hf hv hJ hL hW K hK => ?_, fun D2 a W hC hd hsz hf hv hJ hL hW K hK => ?_, fun D2 a W hC hd hsz hf hv hJ hL hW K hK => ?_, fun D2 a W hC hd hsz hf hv hJ hL hW K hK => ?_, fun D2 a W hC hd hsz hf hv hJ hL hW K hK => ?_, fun D2 a W hC hd hsz hf hv hJ hL hW K hK => ?_, fun D2 a W hC hd hsz hf hv hJ hL hW K hK => ?_, fun D2 a W hC hd hsz hf hv hJ hL hW K hK => ?_, fun D2 a W hC hd hsz hf hv hJ hL hW K hK => ?_, fun D2 a W hC hd hsz hf hv hJ hL hW K hK => ?_, fun D2 a W hC hd hsz hf hv hJ hL hW K hK => ?_, fun D2 a W hC hd hsz hf hv hJ hL hW K hK => ?_, fun D2 a W hC hd hsz hf hv hJ hL hW K hK => ?_, fun D2 a W hC hd hsz hf hv hJ hL hW K hK => ?_, fun D2 a W hC hd hsz hf hv hJ hL hW K hK => ?_, fun D2 a W hC hd hsz hf hv hJ hL hW K hK => ?_, fun D2 a W hC hd hsz hf hv hJ hL hW K hK => ?_, trivial⟩
            · clear hsz
              have e1 := slot_of (a := a) (s := 0) (v := .pointer (some ⟨p, 0, none⟩)) (hf 0 (by kernel_rfl))
              refine step_run (wanted_none rfl) (v := .pointer (some ⟨p, 0, none⟩)) (w' := W) ?_ (hK _ _ trivial trivial rfl (hJ.same 0 (by decide) ls0))
              go_simp
            · clear hsz
              have e1 := slot_of (a := a) (s := 24) (v := .pointer (some ⟨p, 0, none⟩)) (hv 0 (by kernel_rfl))
              refine step_run (wanted_none rfl) (v := .pointer (some ⟨p, 0, none⟩)) (w' := W) ?_ (hK _ _ trivial trivial rfl (hJ.same 1 (by decide) (ls1 (hW 0 (by kernel_rfl)))))
              go_simp
            · clear hsz
              have e1 := slot_of (a := a) (s := 25) (v := .pointer (some ⟨p, 0, none⟩)) (hv 1 (by kernel_rfl))
              refine step_run (wanted_none rfl) (v := .pointer (some ⟨p, 0, none⟩)) (w' := W) ?_ (hK _ _ trivial trivial rfl (hJ.same 2 (by decide) (ls1 (hW 1 (by kernel_rfl)))))
              go_simp
            · clear hsz
              have e1 := slot_of (a := a) (s := 26) (v := .pointer (some ⟨p, 0, none⟩)) (hv 2 (by kernel_rfl))
              have hw := hJ.get 3 [20, 21] rfl rfl hL
              subst hw
              have cc := HO.out.bp.cell 0
              simp only [List.getElem?_toArray, List.getElem?_cons_zero, List.getElem?_cons_succ] at cc
              refine step_run (wanted_none rfl) (v := .slice (some ⟨q, 0, none⟩) n n) (w' := W) ?_ (hK _ _ trivial trivial rfl (hJ.same 3 (by decide) (ls1 (hW 2 (by kernel_rfl)))))
              go_simp
            · clear hsz
              have e1 := slot_of (a := a) (s := 0) (v := .pointer (some ⟨p, 0, none⟩)) (hf 0 (by kernel_rfl))
              refine step_run (wanted_none rfl) (v := .pointer (some ⟨p, 0, none⟩)) (w' := W) ?_ (hK _ _ trivial trivial rfl (hJ.same 4 (by decide) ls0))
              go_simp
            · clear hsz
              have e1 := slot_of (a := a) (s := 28) (v := .pointer (some ⟨p, 0, none⟩)) (hv 4 (by kernel_rfl))
              refine step_run (wanted_none rfl) (v := .pointer (some ⟨p, 0, none⟩)) (w' := W) ?_ (hK _ _ trivial trivial rfl (hJ.same 5 (by decide) (ls1 (hW 4 (by kernel_rfl)))))
              go_simp
            · clear hsz
              have e1 := slot_of (a := a) (s := 29) (v := .pointer (some ⟨p, 0, none⟩)) (hv 5 (by kernel_rfl))
              refine step_run (wanted_none rfl) (v := .pointer (some ⟨p, 1, none⟩)) (w' := W) ?_ (hK _ _ trivial trivial rfl (hJ.same 6 (by decide) (ls1 (hW 5 (by kernel_rfl)))))
              go_simp
            · clear hsz
              have e1 := slot_of (a := a) (s := 30) (v := .pointer (some ⟨p, 1, none⟩)) (hv 6 (by kernel_rfl))
              have hw := hJ.get 7 [9, 10, 11, 20, 21] rfl rfl hL
              subst hw
              have cc := HO.out.bp.cell 1
              simp only [List.getElem?_toArray, List.getElem?_cons_zero, List.getElem?_cons_succ] at cc
              refine step_run (wanted_none rfl) (v := .slice (some ⟨g, 0, none⟩) r c) (w' := W) ?_ (hK _ _ trivial trivial rfl (hJ.same 7 (by decide) (ls1 (hW 6 (by kernel_rfl)))))
              go_simp
            · clear hsz
              have e1 := slot_of (a := a) (s := 4) (v := .int .i64 (k : Int)) (hf 4 (by kernel_rfl))
              refine step_run (wanted_none rfl) (v := .int .i64 (k : Int)) (w' := W) ?_ (hK _ _ trivial trivial rfl (hJ.same 8 (by decide) ls0))
              go_simp
            · clear hsz
              have e1 := slot_of (a := a) (s := 31) (v := .slice (some ⟨g, 0, none⟩) r c) (hv 7 (by kernel_rfl))
              have e2 := slot_of (a := a) (s := 32) (v := .int .i64 (k : Int)) (hv 8 (by kernel_rfl))
              refine step_run (wanted_none rfl) (v := .pointer (some ⟨g, k * 65, none⟩)) (w' := W) ?_ (hK _ _ trivial trivial rfl (hJ.same 9 (by decide) (ls2 (hW 7 (by kernel_rfl)) (hW 8 (by kernel_rfl)))))
              go_simp
            · clear hsz
              have e1 := slot_of (a := a) (s := 33) (v := .pointer (some ⟨g, k * 65, none⟩)) (hv 9 (by kernel_rfl))
              refine step_run (wanted_none rfl) (v := .pointer (some ⟨g, k * 65, none⟩)) (w' := W) ?_ (hK _ _ trivial trivial rfl (hJ.same 10 (by decide) (ls1 (hW 9 (by kernel_rfl)))))
              go_simp
            · clear hsz
              have e1 := slot_of (a := a) (s := 34) (v := .pointer (some ⟨g, k * 65, none⟩)) (hv 10 (by kernel_rfl))
              have hw := hJ.get 11 [20, 21] rfl rfl hL
              subst hw
              have cc := HAT.out
              refine step_run (wanted_none rfl) (v := .int .i64 (at_ : Int)) (w' := W) ?_ (hK _ _ trivial trivial rfl (hJ.same 11 (by decide) (ls1 (hW 10 (by kernel_rfl)))))
              go_simp
            · clear hsz
              have e1 := slot_of (a := a) (s := 0) (v := .pointer (some ⟨p, 0, none⟩)) (hf 0 (by kernel_rfl))
              refine step_run (wanted_none rfl) (v := .pointer (some ⟨p, 0, none⟩)) (w' := W) ?_ (hK _ _ trivial trivial rfl (hJ.same 12 (by decide) ls0))
              go_simp
            · clear hsz
              have e1 := slot_of (a := a) (s := 36) (v := .pointer (some ⟨p, 0, none⟩)) (hv 12 (by kernel_rfl))
              refine step_run (wanted_none rfl) (v := .pointer (some ⟨p, 0, none⟩)) (w' := W) ?_ (hK _ _ trivial trivial rfl (hJ.same 13 (by decide) (ls1 (hW 12 (by kernel_rfl)))))
              go_simp
            · clear hsz
              have e1 := slot_of (a := a) (s := 37) (v := .pointer (some ⟨p, 0, none⟩)) (hv 13 (by kernel_rfl))
              refine step_run (wanted_none rfl) (v := .pointer (some ⟨p, 1, none⟩)) (w' := W) ?_ (hK _ _ trivial trivial rfl (hJ.same 14 (by decide) (ls1 (hW 13 (by kernel_rfl)))))
              go_simp
            · clear hsz
              have e1 := slot_of (a := a) (s := 38) (v := .pointer (some ⟨p, 1, none⟩)) (hv 14 (by kernel_rfl))
              have hw := hJ.get 15 [17, 18, 19, 21] rfl rfl hL
              subst hw
              have cc := HO.out.bp.cell 1
              simp only [List.getElem?_toArray, List.getElem?_cons_zero, List.getElem?_cons_succ] at cc
              refine step_run (wanted_none rfl) (v := .slice (some ⟨g, 0, none⟩) r c) (w' := W) ?_ (hK _ _ trivial trivial rfl (hJ.same 15 (by decide) (ls1 (hW 14 (by kernel_rfl)))))
              go_simp
            · clear hsz
              have e1 := slot_of (a := a) (s := 4) (v := .int .i64 (k : Int)) (hf 4 (by kernel_rfl))
              refine step_run (wanted_none rfl) (v := .int .i64 (k : Int)) (w' := W) ?_ (hK _ _ trivial trivial rfl (hJ.same 16 (by decide) ls0))
              go_simp
            · clear hsz
              have e1 := slot_of (a := a) (s := 39) (v := .slice (some ⟨g, 0, none⟩) r c) (hv 15 (by kernel_rfl))
              have e2 := slot_of (a := a) (s := 40) (v := .int .i64 (k : Int)) (hv 16 (by kernel_rfl))
              refine step_run (wanted_none rfl) (v := .pointer (some ⟨g, k * 65, none⟩)) (w' := W) ?_ (hK _ _ trivial trivial rfl (hJ.same 17 (by decide) (ls2 (hW 15 (by kernel_rfl)) (hW 16 (by kernel_rfl)))))
              go_simp
            · clear hsz
              have e1 := slot_of (a := a) (s := 41) (v := .pointer (some ⟨g, k * 65, none⟩)) (hv 17 (by kernel_rfl))
              refine step_run (wanted_none rfl) (v := .pointer (some ⟨g, k * 65 + 1, none⟩)) (w' := W) ?_ (hK _ _ trivial trivial rfl (hJ.same 18 (by decide) (ls1 (hW 17 (by kernel_rfl)))))
              go_simp
            · clear hsz
              have hw := hJ.get 19 [21] rfl rfl hL
              subst hw
              refine step_load_sub (wanted_none rfl) 26 (.tmp 42) rfl g (k * 65 + 1) (eval_of (hv 18 (by kernel_rfl))) (rowOf Y) HCY.out _ Try.underlying26 rfl HI.out ?_
              exact hK _ _ trivial trivial rfl (hJ.same 19 (by decide) (ls1 (hW 18 (by kernel_rfl))))
            · clear hsz
              have e1 := slot_of (a := a) (s := 27) (v := .slice (some ⟨q, 0, none⟩) n n) (hv 3 (by kernel_rfl))
              have e2 := slot_of (a := a) (s := 35) (v := .int .i64 (at_ : Int)) (hv 11 (by kernel_rfl))
              refine step_run (wanted_none rfl) (v := .pointer (some ⟨q, at_ * 64, none⟩)) (w' := W) ?_ (hK _ _ trivial trivial rfl (hJ.same 20 (by decide) (ls2 (hW 3 (by kernel_rfl)) (hW 11 (by kernel_rfl)))))
              go_simp
            · clear hsz
              have hw := hJ.old hL
              subst hw
              refine step_store_mid (wanted_none rfl) 26 (.tmp 44) (.tmp 43) rfl q (at_ * 64) (eval_of (hv 20 (by kernel_rfl))) (rowOf Y) (eval_of (hv 19 (by kernel_rfl))) 26 _ HO.out.bq HI.out HSZ.out (rowOf_ones _) ?_
              rw [HSET.out]
              exact hK undef _ trivial trivial trivial (hJ.store (ls2 (hW 20 (by kernel_rfl)) (hW 19 (by kernel_rfl))) rfl)
          · intro f wy hC5 hv5 L3 hL3 hJ3
            obtain ⟨aE, hJ, hfr⟩ := hJ3
            have e5 := hJ.fin (hL3 21 (by decide))
            subst e5
            obtain ⟨r1, r2, r3⟩ := HO.out.put (by have := HBX.out.size; have := HB0.out; omega) at_ Y HY.out
            rw [HNX.out] at r1 r2 r3 ⊢
            have C3 := hidD_ r1
            have X3 := hidD_ (HBX.out.trans r2)
            have U3 := hidD_ (HUX.out.trans r3)
            simp only [framed, List.foldl_cons, List.foldl_nil, List.setIfInBounds_toArray, List.set_cons_succ, List.set_cons_zero]
            clear hv5 hC5 hJ hfr hL3 r1 r2 r3
            rename_i Kd hKd
            refine hKd _ _ ?_
            generalize wd.setRow q (flatC rowOf (appl F (kept (R.take (k + 1)) S))).toArray = wy at *
            go_wp2
            go_roundw
            case rel => exact ⟨k + 1, by omega, by go_num, C3, X3, U3⟩
            case measure => simp [intOf]; omega
        | false =>
          have HNX := hidD_ (show appl F (kept (R.take k) S) = appl F (kept (R.take (k + 1)) S) by rw [HKT.out, if_neg (by simp), List.append_nil])
          rw [HNX.out] at HRV
          clear hbo hcs hx q0 q1
          go_wp2
          go_roundw
          case rel => exact ⟨k + 1, by omega, by go_num, HRV, HBW, HUW⟩
          case measure => simp [intOf]; omega
      · have HT : kept (R.take k) S = kept R S := kept_short R S k (by omega)
        rw [HT] at HRV
        have d1 : decide ((k : Int) < (r : Int)) = true := decide_eq_true (by omega)
        have d2 : decide ((k : Int) < (ns : Int)) = false := decide_eq_false (by omega)
        have d3 : ¬ (k : Int) < (ns : Int) := by omega
        clear HT
        have f1 := HRV.out.bp.frozen 1
        have f2 := HRV.out.bp.frozen 2
        have f3 := HRV.out.bp.frozen 3
        obtain ⟨_, _, e2, e3⟩ := HRV.out.cells
        have Z1 := HRV.out.loose_
        have P1 := hidD_ (Bk.putD (b0 := b0) (T := rfT) HRV.out.bp HRV.out.hp (by simp [rfT]) 1 (.slice none 0 0))
        have Z2 := Z1.off_ false
        have P2 := hidD_ (Bk.putD (b0 := b0) (T := rfT) Z1.bp Z1.hp (by simp [rfT]) 3 (.bool false))
        have Z3 := hidD_ (Z2.fuse_ 0 (by omega))
        have P3 := hidD_ (Bk.putD (b0 := b0) (T := rfT) Z2.bp Z2.hp (by simp [rfT]) 2 (.int .i64 ((0 : Nat) : Int)))
        clear Z1 Z2
        go_wp2
        go_end0
        exact ⟨rfl, ⟨_, Z3.out⟩, ((HBW.out.trans P1.out.1).trans P2.out.1).trans P3.out.1, ((HUW.out.trans P1.out.2).trans P2.out.2).trans P3.out.2⟩
    · have HT : R.take k = R := List.take_of_length_le (by rw [HR.out]; omega)
      rw [HT] at HRV
      have d1 : decide ((k : Int) < (r : Int)) = false := decide_eq_false (by omega)
      have d3 : ¬ (k : Int) < (r : Int) := by omega
      clear HT
      have f1 := HRV.out.bp.frozen 1
      have f2 := HRV.out.bp.frozen 2
      have f3 := HRV.out.bp.frozen 3
      obtain ⟨_, _, e2, e3⟩ := HRV.out.cells
      have Z1 := HRV.out.loose_
      have P1 := hidD_ (Bk.putD (b0 := b0) (T := rfT) HRV.out.bp HRV.out.hp (by simp [rfT]) 1 (.slice none 0 0))
      have Z2 := Z1.off_ false
      have P2 := hidD_ (Bk.putD (b0 := b0) (T := rfT) Z1.bp Z1.hp (by simp [rfT]) 3 (.bool false))
      have Z3 := hidD_ (Z2.fuse_ 0 (by omega))
      have P3 := hidD_ (Bk.putD (b0 := b0) (T := rfT) Z2.bp Z2.hp (by simp [rfT]) 2 (.int .i64 ((0 : Nat) : Int)))
      clear Z1 Z2 hlt
      go_wp2
      go_end0
      exact ⟨rfl, ⟨_, Z3.out⟩, ((HBW.out.trans P1.out.1).trans P2.out.1).trans P3.out.1, ((HUW.out.trans P1.out.2).trans P2.out.2).trans P3.out.2⟩
end
end Go.Proofs.Ytibnfldddpmafaa
