/-
  The document's disk: what lies behind its pointer; see, burn, DocRead.
-/
import Derived.Test.YtibnfldddpmafaaDko
namespace Go.Proofs.Ytibnfldddpmafaa
open Go.RowKit
set_option linter.unusedVariables false
set_option linter.unusedSimpArgs false

def lsR (x : WrV) : Array Value := #[.int .i64 (x.1 : Int)] ++ rowOf x.2
theorem lsR_size (x : WrV) (h : x.2.length = 64) : (lsR x).size = 65 := by simp [lsR, rowOf_size, h]
theorem lsR_cells (x : WrV) (h1 : x.2.length = 64) : (lsR x)[0]? = some (.int .i64 (x.1 : Int)) ∧ ∀ j, j < (rowOf x.2).size → (lsR x)[1 + j]? = (rowOf x.2)[j]? := by
  refine ⟨?_, fun j hj => ?_⟩
  · unfold lsR
    rw [Array.getElem?_append_left (by simp)]
    rfl
  · unfold lsR
    rw [Array.getElem?_append_right (by simp)]
    simp
def rfT : List TypeId := [47, 26, 72]
structure RfV (b0 : Nat) (w : World) (p q n : Nat) (F : List (List UInt8)) (R : List WrV) (v : Value) (fu : Nat) (off : Bool) : Prop where
  hp : b0 ≤ p
  hq : b0 ≤ q
  n1 : 1 ≤ n
  n2 : n ≤ 8192
  hF : F.length = n
  F64 : ∀ D ∈ F, D.length = 64
  hR : ∀ x ∈ R, x.1 < n ∧ x.2.length = 64
  hfu : fu ≤ 9223372036854775807
  bp : Bk w p 47 #[.slice (some ⟨q, 0, none⟩) n n, v, .int .i64 (fu : Int), .bool off]
  lo : w.ownsRow b0 72 65 v R.length (flatC lsR R)
  bq : Bk w q 26 (flatC rowOf F).toArray
def RfI (b0 : Nat) (w : World) (p q n : Nat) (F : List (List UInt8)) (R : List WrV) (fu : Nat) (off : Bool) : Prop := ∃ v, RfV b0 w p q n F R v fu off
def RfP (b0 : Nat) (w : World) (p q n : Nat) (F : List (List UInt8)) (R : List WrV) (fu : Nat) (off : Bool) (V : Value) (e : Ending) (w' : World) : Prop :=
  e = .returned V ∧ RfI b0 w' p q n F R fu off ∧ Below b0 w w' ∧ UnT rfT w w'
section
variable {b0 : Nat} {w w' : World} {p q n : Nat} {F : List (List UInt8)} {R : List WrV} {v : Value} {fu : Nat} {off : Bool} {T : List TypeId}
theorem RfV.unt (h : RfV b0 w p q n F R v fu off) (hu : UnT T w w') (ht : ∀ t ∈ rfT, t ∉ T) : RfV b0 w' p q n F R v fu off :=
  ⟨h.hp, h.hq, h.n1, h.n2, h.hF, h.F64, h.hR, h.hfu, h.bp.unt hu (ht _ (by simp [rfT])), ownsRow_unt h.lo hu (ht _ (by simp [rfT])), h.bq.unt hu (ht _ (by simp [rfT]))⟩
theorem RfI.unt (h : RfI b0 w p q n F R fu off) (hu : UnT T w w') (ht : ∀ t ∈ rfT, t ∉ T) : RfI b0 w' p q n F R fu off := by
  obtain ⟨v, h⟩ := h
  exact ⟨v, h.unt hu ht⟩
theorem RfV.below (h : RfV b0 w p q n F R v fu off) (hb : Below w.heap.size w w') : RfV b0 w' p q n F R v fu off := h.unt (T := []) ⟨hb.size, fun k hk _ => hb.block k hk⟩ fun _ _ => by simp
theorem RfI.below (h : RfI b0 w p q n F R fu off) (hb : Below w.heap.size w w') : RfI b0 w' p q n F R fu off := h.unt (T := []) ⟨hb.size, fun k hk _ => hb.block k hk⟩ fun _ _ => by simp
theorem RfV.form (h : RfV b0 w p q n F R v fu off) : ∃ A c, v = .slice A R.length c := by
  rcases h.lo.2 with ⟨hv, h0⟩ | ⟨g, cap, cur, hv, _⟩
  · exact ⟨none, 0, by rw [h0]; exact hv⟩
  · exact ⟨_, cap, hv⟩
theorem RfV.cells (h : RfV b0 w p q n F R v fu off) : w.cell? ⟨p, 0, none⟩ = some (.slice (some ⟨q, 0, none⟩) n n) ∧ w.cell? ⟨p, 1, none⟩ = some v ∧ w.cell? ⟨p, 2, none⟩ = some (.int .i64 (fu : Int)) ∧ w.cell? ⟨p, 3, none⟩ = some (.bool off) :=
  ⟨h.bp.cell 0, h.bp.cell 1, h.bp.cell 2, h.bp.cell 3⟩
theorem RfV.turn (h : RfV b0 w p q n F R v fu off) (i : Nat) (u : Value) {fu' : Nat} {off' : Bool} (hf : fu' ≤ 9223372036854775807)
    (hb : Bk (w.setCell ⟨p, i, none⟩ u) p 47 #[.slice (some ⟨q, 0, none⟩) n n, v, .int .i64 (fu' : Int), .bool off']) : RfV b0 (w.setCell ⟨p, i, none⟩ u) p q n F R v fu' off' := by
  have hne : ∀ k, k ≠ p → (w.setCell ⟨p, i, none⟩ u).heap[k]? = w.heap[k]? := fun k hk => Below.heap_setCell w ⟨p, i, none⟩ u k hk
  refine ⟨h.hp, h.hq, h.n1, h.n2, h.hF, h.F64, h.hR, hf, hb, ownsRow_heapk h.lo fun g hg => hne g fun e => ?_, h.bq.far (p := ⟨p, i, none⟩) (h.bq.neT h.bp (by decide)) u⟩
  subst e
  exact h.bp.neRow h.lo (by decide) hg.symm
theorem RfV.fuse_ (h : RfV b0 w p q n F R v fu off) (fu' : Nat) (hf : fu' ≤ 9223372036854775807) : RfV b0 (w.setCell ⟨p, 2, none⟩ (.int .i64 (fu' : Int))) p q n F R v fu' off := h.turn 2 _ hf (h.bp.set_ 2 _)
theorem RfV.off_ (h : RfV b0 w p q n F R v fu off) (off' : Bool) : RfV b0 (w.setCell ⟨p, 3, none⟩ (.bool off')) p q n F R v fu off' := h.turn 3 _ h.hfu (h.bp.set_ 3 _)
theorem RfV.loose_ (h : RfV b0 w p q n F R v fu off) : RfV b0 (w.setCell ⟨p, 1, none⟩ (.slice none 0 0)) p q n F [] (.slice none 0 0) fu off :=
  ⟨h.hp, h.hq, h.n1, h.n2, h.hF, h.F64, fun _ hx => (by cases hx), h.hfu, h.bp.set_ 1 _, World.ownsRow_nil _ _ _ _, h.bq.far (p := ⟨p, 1, none⟩) (h.bq.neT h.bp (by decide)) _⟩
/-- One sector turns. -/
theorem RfV.put (h : RfV b0 w p q n F R v fu off) (hb0 : b0 ≤ w.heap.size) (k : Nat) (D : List UInt8) (hD : D.length = 64) :
    RfV b0 (w.setRow q (flatC rowOf (F.set k D)).toArray) p q n (F.set k D) R v fu off ∧ Below b0 w (w.setRow q (flatC rowOf (F.set k D)).toArray) ∧ UnT rfT w (w.setRow q (flatC rowOf (F.set k D)).toArray) := by
  have hg := setRow_grown w q (flatC rowOf (F.set k D)).toArray
  refine ⟨⟨h.hp, h.hq, h.n1, h.n2, by rw [List.length_set]; exact h.hF, fun E hE => ?_, h.hR, h.hfu, h.bp.rowfar (h.bp.neT h.bq (by decide)) _, ownsRow_heapk h.lo fun g e => setRow_other w q g _ fun e2 => ?_, h.bq.rowed _⟩, (Below.refl b0 w).grown hg hb0 (fun k e => by injection e with e; subst e; exact h.hq), UnT.of_grown hg fun k e => ?_⟩
  · rcases List.mem_or_eq_of_mem_set hE with h1 | h1
    · exact h.F64 E h1
    · rw [h1]; exact hD
  · subst e2
    exact h.bq.neRow h.lo (by decide) e.symm
  · injection e with e
    subst e
    exact ⟨_, _, _, h.bq, by simp [rfT]⟩
/-- A loose write's cells. -/
theorem RfV.loose_at (h : RfV b0 w p q n F R v fu off) (k : Nat) (hk : k < R.length) : ∃ g c, v = .slice (some ⟨g, 0, none⟩) R.length c ∧ g < w.heap.size ∧ (∀ j, j < 65 → w.cell? ⟨g, k * 65 + j, none⟩ = (lsR R[k])[j]?) ∧ R[k].1 < n ∧ R[k].2.length = 64 := by
  have hlo := h.lo
  rcases h.lo.2 with ⟨_, h0⟩ | ⟨g, c, cur, hv, _, hh, _⟩
  · omega
  · subst hv
    exact ⟨g, c, rfl, (Array.getElem?_eq_some_iff.1 hh).1, fun j hj => by
      rw [World.ownsRow.cellAt hlo (k * 65 + j) (by omega), flatC_at _ k j hk (fun x hx => lsR_size x (h.hR x hx).2) hj], h.hR _ (List.getElem_mem hk)⟩
theorem RfV.sec (h : RfV b0 w p q n F R v fu off) (k : Nat) (hk : k < n) : (F.getD k []).length = 64 ∧ ∀ j, j < (rowOf (F.getD k [])).size → w.cell? ⟨q, k * 64 + j, none⟩ = (rowOf (F.getD k []))[j]? := by
  have hk' : k < F.length := by rw [h.hF]; exact hk
  exact ⟨getD_mem64 h.F64 k hk', fun j hj => (h.bq.cell _).trans (sec_at h.F64 k hk' j hj)⟩
end
theorem appl_last (F : List (List UInt8)) (R : List WrV) (j : Nat) (h : j < R.length) (k : Nat) (hk : k < F.length) : (appl F (R.take (j + 1))).getD k [] = if R[j].1 = k then R[j].2 else (appl F (R.take j)).getD k [] := by
  rw [List.take_succ_eq_append_getElem h, appl_snoc]
  have hl := appl_len (R.take j) F
  by_cases he : R[j].1 = k
  · subst he
    rw [if_pos rfl]
    simp [List.getD, hl, hk]
  · rw [if_neg he]
    simp [List.getD, he]
section
variable {b0 : Nat} {w : World} {p q n : Nat} {F : List (List UInt8)} {R : List WrV} {fu : Nat} {off : Bool}
set_option maxRecDepth 100000 in
set_option maxHeartbeats 4000000 in
theorem see_any (h : RfI b0 w p q n F R fu off) (hm : R.length ≤ 1000000) (k : Nat) (hk : k < n) : Calls Try.prog 30 #[.pointer (some ⟨p, 0, none⟩), .int .i64 (k : Int)] w fun e w' => e = .returned (.agg (rowOf ((appl F R).getD k []))) ∧ Below w.heap.size w w' := by
  obtain ⟨g4, hg4⟩ : ∃ g, w.heap.size = g := ⟨_, rfl⟩
  obtain ⟨w1, hw1⟩ : ∃ W, w.alloc (.cells (rowOf zsec) 26) = W := ⟨_, rfl⟩
  have b1 : Below w.heap.size w w1 := by rw [← hw1]; exact (Below.refl _ _).alloc (Nat.le_refl _) _
  have K1 := hidD_ (show Bk w1 g4 26 (rowOf zsec) by rw [← hw1, ← hg4]; exact Bk.new w _ _)
  obtain ⟨v, hv⟩ := h.below b1
  obtain ⟨A, c, rfl⟩ := hv.form
  obtain ⟨c0', c1', _, _⟩ := hv.cells
  have HV := hidD_ hv
  have B1 := hidD_ b1
  have HG4 := hidD_ hg4
  have z1 := zero64K w
  have hkF : k < F.length := by rw [hv.hF]; exact hk
  have HKF := hidD_ hkF
  obtain ⟨r, hr⟩ : ∃ r, R.length = r := ⟨_, rfl⟩
  have HR := hidD_ hr
  rw [hr] at hm c1'
  obtain ⟨D, hD⟩ : ∃ D, (appl F R).getD k [] = D := ⟨_, rfl⟩
  have HD := hidD_ hD
  rw [hD]
  clear h hv b1 hkF hr hD
  go_enter Try.func30, Try.ntmps30
  go_wp2
  go_loopw [5] (fun i wr => ∃ j : Nat, j ≤ r ∧ i = .int .i64 ((j : Int) - 1) ∧ wr = w1 ∧ Hid ((appl F (R.take j)).getD k [] = D)) (fun i _ => (intOf i + 1).toNat)
  case atStart => exact ⟨r, Nat.le_refl _, rfl, rfl, hidD_ (by rw [List.take_of_length_le (by rw [HR.out]; omega)]; exact HD.out)⟩
  case round =>
    obtain ⟨j, hj, rfl, rfl, HJ⟩ := hrel
    rcases j with _ | j
    · have h64 := HV.out.sec k hk
      have hDF : F.getD k [] = D := by rw [← HJ.out]; rfl
      rw [hDF] at h64
      have HSC := hidD_ h64
      have HI := hidD_ (i64K D h64.1)
      have t0 : (0 : Int) ≤ (k : Int) := by omega
      have tn : (k : Int) < (n : Int) := by omega
      clear h64 hDF
      go_wp2_with (first
        | (refine wpList_load_sub rfl 26 (.tmp 39) rfl q (k * 64) rfl (rowOf D) HSC.out.2 _ Try.underlying26 rfl HI.out ?_)
        | (refine wpList_put_row rfl 26 (.tmp 4) (.tmp 40) rfl g4 (rowOf D) rfl rfl 26 (rowOf zsec) K1.out HI.out (by rw [rowOf_size, rowOf_size, HSC.out.1, zsec_len]) (bytes_one _) ?_; intro w9 k9 g9 s9; have K9 := hidD_ k9; have G9 := hidD_ g9; clear k9 g9 s9))
      exact bodyPost_ret (results_cellK Try.results30 _ _ g4 rfl (run_loadVar_row _ _ _ _ _ (0, 0) _ K9.out Try.underlying26 rfl HI.out)) rfl ⟨by first | rfl | trivial, by have hq := B1.out.grown G9.out B1.out.size (fun k e => by injection e with e; have := HG4.out; omega); first | exact hq | (rw [← HG4.out]; exact hq)⟩
    · have hjR : j < R.length := by rw [HR.out]; omega
      obtain ⟨g, c', hA, hgl, hcs, hx1, hx2⟩ := HV.out.loose_at j hjR
      have hal := appl_last F R j hjR k HKF.out
      rw [HJ.out] at hal
      obtain ⟨⟨at_, Y⟩, hx⟩ : ∃ z, R[j] = z := ⟨_, rfl⟩
      rw [hx] at hcs hx1 hx2 hal
      simp only at hx1 hx2 hal
      injection hA with hA1 hA2 hA3
      subst hA1
      obtain ⟨q0, q1⟩ := lsR_cells (at_, Y) hx2
      have cat := (hcs 0 (by omega)).trans q0
      rw [Nat.add_zero] at cat
      have HCY := hidD_ (fun i (hi : i < (rowOf Y).size) => by
        have h1 := hcs (1 + i) (by rw [rowOf_size, hx2] at hi; omega)
        rw [← Nat.add_assoc] at h1
        exact h1.trans (q1 i hi))
      have HI := hidD_ (i64K Y hx2)
      have HY := hidD_ hx2
      have e1 : ((j + 1 : Nat) : Int) - 1 = (j : Int) := by omega
      rw [e1]
      have t0 : (0 : Int) ≤ (j : Int) := by omega
      have tn : (j : Int) < (r : Int) := by omega
      have d1 : decide ((0 : Int) ≤ (j : Int)) = true := decide_eq_true t0
      clear hx hcs hx2 q0 q1 hA2 hA3
      by_cases hke : at_ = k
      · rw [if_pos hke] at hal
        subst hal
        have d2 : ((at_ : Int) == (k : Int)) = true := by simp [hke]
        have d3 : (at_ : Int) = (k : Int) := by omega
        clear hke
        go_wp2_with (first
          | (refine wpList_load_sub rfl 26 (.tmp 32) rfl g (j * 65 + 1) rfl (rowOf D) HCY.out _ Try.underlying26 rfl HI.out ?_)
          | (refine wpList_put_row rfl 26 (.tmp 4) (.tmp 33) rfl g4 (rowOf D) rfl rfl 26 (rowOf zsec) K1.out HI.out (by rw [rowOf_size, rowOf_size, HY.out, zsec_len]) (bytes_one _) ?_; intro w9 k9 g9 s9; have K9 := hidD_ k9; have G9 := hidD_ g9; clear k9 g9 s9))
        exact bodyPost_ret (results_cellK Try.results30 _ _ g4 rfl (run_loadVar_row _ _ _ _ _ (0, 0) _ K9.out Try.underlying26 rfl HI.out)) rfl ⟨by first | rfl | trivial, by have hq := B1.out.grown G9.out B1.out.size (fun k e => by injection e with e; have := HG4.out; omega); first | exact hq | (rw [← HG4.out]; exact hq)⟩
      · rw [if_neg hke] at hal
        have d2 : ((at_ : Int) == (k : Int)) = false := by simp; omega
        have d3 : ¬ (at_ : Int) = (k : Int) := by omega
        have HAL := hidD_ hal.symm
        clear hke hal
        go_wp2
        go_roundw
        case rel => exact ⟨j, by omega, by first | rfl | trivial, by first | rfl | trivial, HAL⟩
        case measure => simp [intOf]
theorem built_640 : Try.prog.built 26 [] = some (rowOf zsec) := by kernel_rfl
set_option maxRecDepth 100000 in
set_option maxHeartbeats 4000000 in
theorem rread_disk (h : RfI b0 w p q n F R fu off) (hm : R.length ≤ 1000000) (z : Int) : Calls Try.prog 20 #[.pointer (some ⟨p, 0, none⟩), .int .i64 z] w fun e w' => e = .returned (.tuple #[.agg (rowOf (readD n F R off z)), .int .i64 (hasE n off z)]) ∧ Below w.heap.size w w' := by
  obtain ⟨g, hg⟩ : ∃ g, w.heap.size = g := ⟨_, rfl⟩
  obtain ⟨w1, hw1⟩ : ∃ W, w.alloc (.cells (rowOf zsec) 26) = W := ⟨_, rfl⟩
  have b1 : Below w.heap.size w w1 := by rw [← hw1]; exact (Below.refl _ _).alloc (Nat.le_refl _) _
  have K1 := hidD_ (show Bk w1 g 26 (rowOf zsec) by rw [← hw1, ← hg]; exact Bk.new w _ _)
  have h1 := h.below b1
  have HH := hidD_ h1
  obtain ⟨v, hv⟩ := h1
  obtain ⟨c0', _, _, c3'⟩ := hv.cells
  have B1 := hidD_ b1
  have HG := hidD_ hg
  have z1 := zero64K w
  have HI0 := hidD_ (i64K zsec zsec_len)
  have HS := hidD_ (fun k (hk : k < n) => getD_mem64 (appl_all R F hv.F64 fun x hx => (hv.hR x hx).2) k (by rw [appl_len, hv.hF]; exact hk))
  obtain ⟨er, her⟩ : ∃ er, hasE n off z = er := ⟨_, rfl⟩
  unfold readD
  rw [her]
  unfold hasE at her
  clear h hv b1
  cases off with
  | true =>
    rw [if_pos rfl] at her
    subst her
    rw [if_neg (by decide)]
    go_enter Try.func20, Try.ntmps20
    go_wp2_with (first
      | (refine wpList_built rfl 26 #[] rfl (rowOf zsec) built_640 ?_)
      | (refine wpList_put_row rfl 26 (.tmp 4) (.tmp 10) rfl g (rowOf zsec) rfl rfl 26 (rowOf zsec) K1.out HI0.out rfl (bytes_one _) ?_; intro w9 k9 g9 s9; have K9 := hidD_ k9; have G9 := hidD_ g9; clear k9 g9 s9))
    exact bodyPost_ret (results_cell_slotK Try.results20 _ _ g rfl rfl (run_loadVar_row _ _ _ _ _ (0, 0) _ K9.out Try.underlying26 rfl HI0.out)) rfl ⟨by first | rfl | trivial, by have hq := B1.out.grown G9.out B1.out.size (fun k e => by injection e with e; have := HG.out; omega); first | exact hq | (rw [← HG.out]; exact hq)⟩
  | false =>
    rw [if_neg (by decide)] at her
    by_cases hz : z < 0 ∨ (n : Int) ≤ z
    · rw [if_pos hz] at her
      subst her
      rw [if_neg (by decide)]
      by_cases h0 : z < 0
      · have d1 : decide (z < 0) = true := decide_eq_true h0
        clear hz
        go_enter Try.func20, Try.ntmps20
        go_wp2_with (first
          | (refine wpList_built rfl 26 #[] rfl (rowOf zsec) built_640 ?_)
          | (refine wpList_put_row rfl 26 (.tmp 4) (.tmp 22) rfl g (rowOf zsec) rfl rfl 26 (rowOf zsec) K1.out HI0.out rfl (bytes_one _) ?_; intro w9 k9 g9 s9; have K9 := hidD_ k9; have G9 := hidD_ g9; clear k9 g9 s9))
        exact bodyPost_ret (results_cell_slotK Try.results20 _ _ g rfl rfl (run_loadVar_row _ _ _ _ _ (0, 0) _ K9.out Try.underlying26 rfl HI0.out)) rfl ⟨by first | rfl | trivial, by have hq := B1.out.grown G9.out B1.out.size (fun k e => by injection e with e; have := HG.out; omega); first | exact hq | (rw [← HG.out]; exact hq)⟩
      · have d1 : decide (z < 0) = false := decide_eq_false h0
        have d2 : decide ((n : Int) ≤ z) = true := decide_eq_true (by omega)
        have d3 : (n : Int) ≤ z := by omega
        clear hz
        go_enter Try.func20, Try.ntmps20
        go_wp2_with (first
          | (refine wpList_built rfl 26 #[] rfl (rowOf zsec) built_640 ?_)
          | (refine wpList_put_row rfl 26 (.tmp 4) (.tmp 22) rfl g (rowOf zsec) rfl rfl 26 (rowOf zsec) K1.out HI0.out rfl (bytes_one _) ?_; intro w9 k9 g9 s9; have K9 := hidD_ k9; have G9 := hidD_ g9; clear k9 g9 s9))
        exact bodyPost_ret (results_cell_slotK Try.results20 _ _ g rfl rfl (run_loadVar_row _ _ _ _ _ (0, 0) _ K9.out Try.underlying26 rfl HI0.out)) rfl ⟨by first | rfl | trivial, by have hq := B1.out.grown G9.out B1.out.size (fun k e => by injection e with e; have := HG.out; omega); first | exact hq | (rw [← HG.out]; exact hq)⟩
    · rw [if_neg hz] at her
      subst her
      rw [if_pos rfl]
      obtain ⟨k, rfl⟩ : ∃ k : Nat, z = (k : Int) := ⟨z.toNat, by omega⟩
      rw [show ((k : Int)).toNat = k from rfl]
      have hk : k < n := by omega
      have cs := see_any HH.out hm k hk
      have h64 := HS.out k hk
      generalize (appl F R).getD k [] = D at cs h64
      have HD := hidD_ h64
      have HI := hidD_ (i64K D h64)
      have d1 : decide ((k : Int) < 0) = false := decide_eq_false (by omega)
      have d2 : decide ((n : Int) ≤ (k : Int)) = false := decide_eq_false (by omega)
      have d3 : ¬ (k : Int) < 0 := by omega
      have d4 : ¬ (n : Int) ≤ (k : Int) := by omega
      clear hz h64
      go_enter Try.func20, Try.ntmps20
      go_wp2_with (first
        | (go_at_call 30; ((with_reducible refine cs.mono ?_); clear cs; rintro e w2 ⟨rfl, hb⟩; have K2 := hidD_ (K1.out.below hb K1.out.lt); have B2 := hidD_ (B1.out.trans (hb.mono B1.out.size)); clear hb))
        | (refine wpList_put_row rfl 26 (.tmp 4) (.tmp 25) rfl g (rowOf D) rfl rfl 26 (rowOf zsec) K2.out HI.out (by rw [rowOf_size, rowOf_size, HD.out, zsec_len]) (bytes_one _) ?_; intro w9 k9 g9 s9; have K9 := hidD_ k9; have G9 := hidD_ g9; clear k9 g9 s9))
      exact bodyPost_ret (results_cell_slotK Try.results20 _ _ g rfl rfl (run_loadVar_row _ _ _ _ _ (0, 0) _ K9.out Try.underlying26 rfl HI.out)) rfl ⟨by first | rfl | trivial, by have hq := B2.out.grown G9.out B2.out.size (fun k e => by injection e with e; have := HG.out; omega); first | exact hq | (rw [← HG.out]; exact hq)⟩
set_option maxRecDepth 100000 in
set_option maxHeartbeats 2000000 in
theorem rburn_any (h : RfI b0 w p q n F R fu false) : Calls Try.prog 31 #[.pointer (some ⟨p, 0, none⟩)] w (RfP b0 w p q n F R (fu - 1) (burnO fu false) (.bool (burnO fu false))) := by
  obtain ⟨v, h⟩ := h
  rcases fu with _ | _ | k
  · obtain ⟨c0, c1, c2, c3⟩ := h.cells
    have HH := hidD_ h
    clear h
    go_enter Try.func31, Try.ntmps31
    go_wp2
    go_ret
    exact ⟨rfl, ⟨v, HH.out⟩, Below.refl _ _, UnT.refl _ _⟩
  · obtain ⟨c0, c1, c2, c3⟩ := h.cells
    have f2 := h.bp.frozen 2
    have f3 := h.bp.frozen 3
    have X := h.fuse_ 0 (by omega)
    have Y := hidD_ (X.off_ true)
    have P1 := hidD_ (Bk.putD (T := rfT) h.bp h.hp (by simp [rfT]) 2 (.int .i64 ((0 : Nat) : Int)))
    have P2 := hidD_ (Bk.putD (T := rfT) X.bp h.hp (by simp [rfT]) 3 (.bool true))
    clear X h
    have e0 : ((0 + 1 : Nat) : Int) = 1 := rfl
    rw [e0] at c2
    go_enter Try.func31, Try.ntmps31
    go_wp2
    go_ret
    exact ⟨rfl, ⟨v, Y.out⟩, P1.out.1.trans P2.out.1, P1.out.2.trans P2.out.2⟩
  · obtain ⟨c0, c1, c2, c3⟩ := h.cells
    have f2 := h.bp.frozen 2
    have f3 := h.bp.frozen 3
    have hfu := h.hfu
    have X := h.fuse_ (k + 1) (by omega)
    have Y := hidD_ (X.off_ false)
    have P1 := hidD_ (Bk.putD (T := rfT) h.bp h.hp (by simp [rfT]) 2 (.int .i64 ((k + 1 : Nat) : Int)))
    have P2 := hidD_ (Bk.putD (T := rfT) X.bp h.hp (by simp [rfT]) 3 (.bool false))
    have e1 : IntKind.i64.wrap (((k + 1 + 1 : Nat) : Int) - 1) = ((k + 1 : Nat) : Int) := by rw [IntWalk.i64_in _ (by omega)]; omega
    have d1 : decide (0 < ((k + 1 + 1 : Nat) : Int)) = true := decide_eq_true (by omega)
    have d2 : (((k + 1 : Nat) : Int) == 0) = false := by simp; omega
    have d3 : ¬ ((k + 1 : Nat) : Int) = 0 := by omega
    clear h hfu X
    generalize ((k + 1 + 1 : Nat) : Int) = z2 at *
    generalize ((k + 1 : Nat) : Int) = z1 at *
    go_enter Try.func31, Try.ntmps31
    go_wp2
    go_ret
    exact ⟨by simp [burnO], ⟨v, by simpa [burnO] using Y.out⟩, P1.out.1.trans P2.out.1, P1.out.2.trans P2.out.2⟩
end
end Go.Proofs.Ytibnfldddpmafaa
