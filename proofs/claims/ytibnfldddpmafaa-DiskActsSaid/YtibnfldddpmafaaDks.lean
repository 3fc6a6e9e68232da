/-
  The document's disk: DocWrite.
-/
import Derived.Test.YtibnfldddpmafaaDkr
namespace Go.Proofs.Ytibnfldddpmafaa
open Go.RowKit
set_option linter.unusedVariables false
set_option linter.unusedSimpArgs false

theorem fill_two (z : Array Value) (hz : z.size = 65) (x : Int) (A : Array Value) (hA : A.size = 64) :
    Instr.fill (#[(0, 1), (1, 64)][·]?) z [(0, .int .i64 x), (1, .agg A)] = some (#[.int .i64 x] ++ A) := by
  have c0 : (Value.int .i64 x).cells = #[.int .i64 x] := rfl
  have cA : (Value.agg A).cells = A := rfl
  obtain ⟨s1, _⟩ := fold_put 0 #[.int .i64 x] z 0
  have p1 := fun k => (fold_put 0 #[.int .i64 x] z k).2
  generalize hz1 : (#[Value.int .i64 x].zipIdx.foldl (fun cs (x : Value × Nat) => cs.setIfInBounds (0 + x.2) x.1) z) = z1 at s1 p1
  obtain ⟨s2, _⟩ := fold_put 1 A z1 0
  have p2 := fun k => (fold_put 1 A z1 k).2
  generalize hz2 : (A.zipIdx.foldl (fun cs (x : Value × Nat) => cs.setIfInBounds (1 + x.2) x.1) z1) = z2 at s2 p2
  simp only [Instr.fill, List.getElem?_toArray, List.getElem?_cons_zero, List.getElem?_cons_succ, c0, cA, hA]
  rw [if_neg (by simp [hz]), hz1, if_neg (by simp; omega), hz2]
  congr 1
  apply Array.ext_getElem?
  intro k
  rw [p2, p1]
  have e3 : (#[Value.int .i64 x] ++ A).size = 65 := by simp [hA]
  by_cases k0 : k = 0
  · subst k0
    rw [if_neg (by omega), if_pos (by simp; omega), Array.getElem?_append_left (by simp)]
  by_cases k1 : k < 65
  · rw [if_pos (by omega), Array.getElem?_append_right (by simp; omega)]
    simp
  · rw [if_neg (by omega), if_neg (by simp; omega), Array.getElem?_eq_none (by omega), Array.getElem?_eq_none (by omega)]
theorem infoS_ : (Try.prog.info? 72).map (fun i => (i.size, i.bytes, i.zero.map (·.cells.size))) = some (65, 72, some 65) := by kernel_rfl
theorem placesS : (match Try.prog.underlying 72 with | some (.struct fields) => fields.toList.mapM (fun f => (Try.prog.info? f.type).map fun i => (f.offset, i.size)) | _ => none) = some [(0, 1), (1, 64)] := by kernel_rfl
theorem built_ls (z : Nat) (X : List UInt8) (hX : X.length = 64) : Try.prog.built 72 [(0, .int .i64 (z : Int)), (1, .agg (rowOf X))] = some (lsR (z, X)) := by
  obtain ⟨i, hi, hii⟩ := Option.map_eq_some_iff.1 infoS_
  simp only [Prod.mk.injEq] at hii
  obtain ⟨hsize, hby, hzz⟩ := hii
  obtain ⟨zz, hz, hzs⟩ := Option.map_eq_some_iff.1 hzz
  have hp := placesS
  have hu := Try.underlying72
  unfold Program.built
  rw [hu] at hp
  simp only at hp
  simp only [hi, hu, hz, hp]
  exact fill_two zz.cells hzs _ _ (by rw [rowOf_size, hX])
theorem lsR_one (x : WrV) : ∀ u ∈ (lsR x).toList, u.oneCell' = true := fun u hu => by
  simp only [lsR, Array.toList_append, List.mem_append] at hu
  rcases hu with h | h
  · simp at h
    subst h
    rfl
  · exact rowOf_ones _ u h
theorem run_oneS (w : World) (x : WrV) (h1 : x.2.length = 64) : (Instr.buildSlice 45 1 #[(0, .agg (lsR x))]).run Try.prog w = .ok (.slice (some ⟨w.heap.size, 0, none⟩) 1 1) (w.alloc (.cells (lsR x) 72)) := by
  obtain ⟨i, hi, hii⟩ := Option.map_eq_some_iff.1 infoS_
  simp only [Prod.mk.injEq] at hii
  obtain ⟨hsize, hby, hzz⟩ := hii
  obtain ⟨z, hz, hzs⟩ := Option.map_eq_some_iff.1 hzz
  refine run_buildSlice w 45 72 1 _ (lsR x) i z Try.underlying45 hi hz (by rw [hsize]; decide) (by rw [hsize]; decide) ?_
  rw [hsize]
  have h := Go.Great.fill_whole (s := 65) (by decide) [.agg (lsR x)] ((Array.range (1 * 65)).map (z.cells[· % z.cells.size]!)) (fun v hv => by simp at hv; subst hv; exact lsR_size x h1) (by simp)
  rw [show ([Value.agg (lsR x)].flatMap fun v => v.cells.toList).toArray = lsR x by simp [Value.cells]] at h
  exact h
theorem run_appLs {w : World} {b0 : Nat} {v : Value} {l : List WrV} (h : w.ownsRow b0 72 65 v l.length (flatC lsR l)) (x : WrV) (h1 : x.2.length = 64) (g : Nat) (hg : Bk w g 72 (lsR x)) (ty : TypeId) (c : Nat) (hsz : l.length + 1 ≤ 1000000) (hbase : b0 ≤ w.heap.size) :
    ∃ A' c' w', (Builtin.append_ #[45, 45] ty #[v, .slice (some ⟨g, 0, none⟩) 1 c]).run Try.prog w = .ok (.slice A' (l.length + 1) c') w' ∧ w'.ownsRow b0 72 65 (.slice A' (l.length + 1) c') (l.length + 1) (flatC lsR (l ++ [x])) ∧ w.grownBy w' v.ownBlock := by
  obtain ⟨i, hi, hii⟩ := Option.map_eq_some_iff.1 infoS_
  simp only [Prod.mk.injEq] at hii
  obtain ⟨hsize, hby, hzz⟩ := hii
  obtain ⟨z, hz, hzs⟩ := Option.map_eq_some_iff.1 hzz
  have hplain : ∀ j, (⟨g, 0, none⟩ : Addr).add j = ⟨g, j, none⟩ := fun j => by unfold Addr.add; split <;> simp_all
  obtain ⟨v', w', hrun, h4, h3, _, h5⟩ := run_append_own_at (P := Try.prog) w b0 45 ty 72 i z 65 72 Try.underlying45 hi hz hsize hby hzs (by decide) v l.length (flatC lsR l) h ⟨g, 0, none⟩ 1 c (lsR x).toList
    (by rw [Array.length_toList, lsR_size x h1]) (fun j u hj => by rw [hplain, hg.cell]; simpa using hj) (lsR_one x) (by simp only [maxLen]; omega) (by omega) hbase
  rw [← flatC_snoc] at h4
  rcases h4.2 with ⟨_, h0⟩ | ⟨g', cap, cur, rfl, _⟩
  · omega
  · exact ⟨_, _, w', hrun, h4, h3⟩
def RwR (p k r : Nat) (A : Option Addr) (c : Nat) (D : List UInt8) (g0 : Nat) : Nat → Value → Prop
  | 0, v => v = .pointer (some ⟨p, 0, none⟩)
  | 1, v => v = .pointer (some ⟨p, 0, none⟩)
  | 2, v => v = .pointer (some ⟨p, 0, none⟩)
  | 3, v => v = .pointer (some ⟨p, 1, none⟩)
  | 4, v => v = .slice A r c
  | 5, v => v = .int .i64 (k : Int)
  | 6, v => v = .agg (rowOf D)
  | 7, v => v = .agg (lsR (k, D))
  | 10, v => v = .pointer (some ⟨p, 0, none⟩)
  | 11, v => v = .pointer (some ⟨p, 1, none⟩)
  | _, _ => True
def dpsR : Nat → List Nat
  | 2 => [1]
  | 3 => [2]
  | 4 => [3]
  | 7 => [5, 6]
  | 8 => [7]
  | 9 => [4, 8]
  | 11 => [10]
  | 12 => [11, 9]
  | _ => []
/-- What the append's store leaves. -/
theorem rf_of {b0 : Nat} {w1 W0 W : World} {p q n r k fu : Nat} {F : List (List UInt8)} {R : List WrV} {D : List UInt8} {A A2 : Option Addr} {c c2 : Nat} (h : RfV b0 w1 p q n F R (.slice A R.length c) fu false) (hk : k < n) (hD : D.length = 64) (hr : R.length = r)
    (be : Below w1.heap.size w1 W0) (hw1 : b0 ≤ w1.heap.size) (lo : W0.ownsRow b0 72 65 (.slice A R.length c) R.length (flatC lsR R))
    (o1 : Bk W p 47 #[.slice (some ⟨q, 0, none⟩) n n, .slice A r c, .int .i64 (fu : Int), .bool false])
    (c3 : W.ownsRow b0 72 65 (.slice A2 (r + 1) c2) (r + 1) (flatC lsR (R ++ [(k, D)]))) (c4 : (W0.alloc (.cells (lsR (k, D)) 72)).grownBy W (Value.slice A r c).ownBlock) :
    RfI b0 (W.setCell ⟨p, 1, none⟩ (.slice A2 (r + 1) c2)) p q n F (R ++ [(k, D)]) fu false ∧ Below b0 w1 (W.setCell ⟨p, 1, none⟩ (.slice A2 (r + 1) c2)) ∧ UnT rfT w1 (W.setCell ⟨p, 1, none⟩ (.slice A2 (r + 1) c2)) := by
  subst hr
  have hb1 : Below w1.heap.size w1 (W0.alloc (.cells (lsR (k, D)) 72)) := be.trans (((Below.refl _ _).alloc (Nat.le_refl _) _).mono be.size)
  have hrow := World.ownsRow.alloc lo (.cells (lsR (k, D)) 72)
  have hty := ownsRow_ty hrow
  have u1 : UnT rfT w1 W := (UnT.of_below hb1).trans (UnT.of_grown c4 fun g e => by
    obtain ⟨_, _, cs, hh⟩ := hty g e
    exact ⟨cs, _, _, hh, by simp [rfT]⟩)
  have b1 : Below b0 w1 W := (hb1.mono hw1).grown c4 (Nat.le_trans hw1 hb1.size) fun g e => (hty g e).1
  obtain ⟨p1, p2⟩ := Bk.putD (b0 := b0) (T := rfT) o1 h.hp (by simp [rfT]) 1 (.slice A2 (R.length + 1) c2)
  have oq : Bk W q 26 (flatC rowOf F).toArray := ((h.bq.below hb1 h.bq.lt).grown c4 ((h.bq.below hb1 h.bq.lt).neRow hrow (by decide)))
  refine ⟨⟨_, h.hp, h.hq, h.n1, h.n2, h.hF, h.F64, fun y hy => ?_, h.hfu, o1.set_ 1 _, ?_, oq.far (p := ⟨p, 1, none⟩) (oq.neT o1 (by decide)) _⟩, b1.trans p1, u1.trans p2⟩
  · rcases List.mem_append.1 hy with h1 | h1
    · exact h.hR y h1
    · simp at h1
      subst h1
      exact ⟨hk, hD⟩
  · rw [List.length_append]
    exact ownsRow_heapk c3 fun g e => Below.heap_setCell W ⟨p, 1, none⟩ _ g fun e2 => by
      have e3 : g = p := e2
      subst e3
      exact o1.neRow c3 (by decide) e.symm
section
variable {b0 : Nat} {w : World} {p q n : Nat} {F : List (List UInt8)} {R : List WrV} {fu : Nat} {off : Bool}
set_option maxRecDepth 100000 in
set_option maxHeartbeats 2000000 in
theorem rwrite_no (h : RfI b0 w p q n F R fu off) (z : Int) (D : List UInt8) (hE : hasE n off z ≠ 0) : Calls Try.prog 21 #[.pointer (some ⟨p, 0, none⟩), .int .i64 z, .agg (rowOf D)] w fun e w' => e = .returned (.int .i64 (hasE n off z)) ∧ Below w.heap.size w w' := by
  obtain ⟨w1, hw1⟩ : ∃ W, w.alloc (.cells (rowOf D) 26) = W := ⟨_, rfl⟩
  have b1 : Below w.heap.size w w1 := by rw [← hw1]; exact (Below.refl _ _).alloc (Nat.le_refl _) _
  obtain ⟨v, hv⟩ := h.below b1
  obtain ⟨c0', _, _, c3'⟩ := hv.cells
  have B1 := hidD_ b1
  clear h hv b1
  unfold hasE at hE ⊢
  cases off with
  | true =>
    rw [if_pos rfl] at hE ⊢
    go_enter Try.func21, Try.ntmps21
    go_wp2
    go_ret
    exact ⟨rfl, B1.out⟩
  | false =>
    rw [if_neg (by decide)] at hE ⊢
    by_cases hz : z < 0 ∨ (n : Int) ≤ z
    · rw [if_pos hz] at hE ⊢
      by_cases h0 : z < 0
      · have d1 : decide (z < 0) = true := decide_eq_true h0
        clear hz
        go_enter Try.func21, Try.ntmps21
        go_wp2
        go_ret
        exact ⟨rfl, B1.out⟩
      · have d1 : decide (z < 0) = false := decide_eq_false h0
        have d3 : (n : Int) ≤ z := by omega
        have d2 : decide ((n : Int) ≤ z) = true := decide_eq_true d3
        clear hz
        go_enter Try.func21, Try.ntmps21
        go_wp2
        go_ret
        exact ⟨rfl, B1.out⟩
    · exact absurd (if_neg hz) hE
set_option maxRecDepth 100000 in
set_option maxHeartbeats 8000000 in
theorem rwrite_yes (h : RfI b0 w p q n F R fu false) (hb0 : b0 ≤ w.heap.size) (k : Nat) (hk : k < n) (D : List UInt8) (hD : D.length = 64) (hr6 : R.length + 1 ≤ 1000000) :
    Calls Try.prog 21 #[.pointer (some ⟨p, 0, none⟩), .int .i64 (k : Int), .agg (rowOf D)] w (RfP b0 w p q n F (R ++ [(k, D)]) (fu - 1) (burnO fu false) (.int .i64 (burnE fu))) := by
  obtain ⟨g0, hg0⟩ : ∃ g, w.heap.size = g := ⟨_, rfl⟩
  obtain ⟨w1, hw1⟩ : ∃ W, w.alloc (.cells (rowOf D) 26) = W := ⟨_, rfl⟩
  have b1 : Below w.heap.size w w1 := by rw [← hw1]; exact (Below.refl _ _).alloc (Nat.le_refl _) _
  obtain ⟨v, hv⟩ := h.below b1
  obtain ⟨A, c, rfl⟩ := hv.form
  obtain ⟨c0', c1', c2', c3'⟩ := hv.cells
  have BG : Bk w1 g0 26 (rowOf D) := by rw [← hw1, ← hg0]; exact Bk.new w _ _
  have HV := hidD_ hv
  have HI := hidD_ (i64K D hD)
  have HB1 := hidD_ b1
  have HB0 := hidD_ hb0
  have HW1 := hidD_ (show b0 ≤ w1.heap.size from Nat.le_trans hb0 b1.size)
  have HR6 := hidD_ hr6
  have HD := hidD_ hD
  have HK := hidD_ hk
  have LO := hidD_ hv.lo
  obtain ⟨r, hr⟩ : ∃ r, R.length = r := ⟨_, rfl⟩
  have OLD := hidD_ (show Bk w1 p 47 #[.slice (some ⟨q, 0, none⟩) n n, .slice A r c, .int .i64 (fu : Int), .bool false] ∧ Bk w1 g0 26 (rowOf D) from ⟨by rw [← hr]; exact hv.bp, BG⟩)
  have HR := hidD_ hr
  have d1 : decide ((k : Int) < 0) = false := decide_eq_false (by omega)
  have d2 : decide ((n : Int) ≤ (k : Int)) = false := decide_eq_false (by omega)
  have d3 : ¬ (k : Int) < 0 := by omega
  have d4 : ¬ (n : Int) ≤ (k : Int) := by omega
  clear h hv hb0 b1 hr6 hD hr BG c1' c2'
  go_enter Try.func21, Try.ntmps21
  go_upto_region 5 with fail
  clear c0' c3' d1 d2 d3 d4
  obtain ⟨W0, hW0⟩ : ∃ W0, { w1 with drawn := w1.drawn + 1 } = W0 := ⟨_, rfl⟩
  have OLD0 := hidD_ (show Bk W0 p 47 #[.slice (some ⟨q, 0, none⟩) n n, .slice A r c, .int .i64 (fu : Int), .bool false] ∧ Bk W0 g0 26 (rowOf D) by rw [← hW0]; exact OLD.out)
  have LO0 := hidD_ (show W0.ownsRow b0 72 65 (.slice A R.length c) R.length (flatC lsR R) by rw [← hW0]; exact LO.out)
  have BE0 := hidD_ (show Below w1.heap.size w1 W0 by rw [← hW0]; exact (Below.refl _ _).drew)
  refine region_byJF [22, 23, 24, 25, 26, 27, 28, 29, 30, 31, 32, 33] (fun _ => True) (fun _ _ => True) (fun jj v _ => RwR p k r A c D g0 jj v) (fun D2 a W => ApP dpsR 8 30 9 31 12 W0 (fun W => Bk W p 47 #[.slice (some ⟨q, 0, none⟩) n n, .slice A r c, .int .i64 (fu : Int), .bool false] ∧ Bk W g0 26 (rowOf D)) (fun v W => v = .slice (some ⟨W0.heap.size, 0, none⟩) 1 1 ∧ W = W0.alloc (.cells (lsR (k, D)) 72)) (fun v W => ∃ A2 c2, v = .slice A2 (r + 1) c2 ∧ W.ownsRow b0 72 65 (.slice A2 (r + 1) c2) (r + 1) (flatC lsR (R ++ [(k, D)])) ∧ (W0.alloc (.cells (lsR (k, D)) 72)).grownBy W (Value.slice A r c).ownBlock) (fun W => RfI b0 W p q n F (R ++ [(k, D)]) fu false ∧ Below b0 w1 W ∧ UnT rfT w1 W) D2 a W) (by kernel_rfl) (by kernel_rfl) (by kernel_rfl) (by kernel_rfl) (fun j v w w' hT hr => ?_) (fun j v w hlt hj _ => ?_) trivial ?_ (by rw [hW0]; exact ApP.start OLD0.out) ?_
  · exact hr
  · rcases j with _ | _ | _ | _ | _ | _ | _ | _ | _ | _ | _ | _ | _ | j
    all_goals first
      | (exfalso; simp [dstOf] at hj; done)
      | trivial
  · refine ⟨fun D2 a W hC hd hsz hf hv hJ hL hW K hK => ?_, fun D2 a W hC hd hsz hf hv hJ hL hW K hK => ?_, fun D2 a W hC hd hsz hf hv hJ hL hW K hK => ?_, fun D2 a W hC hd hsz hf hv hJ hL hW K hK => ?_, fun D2 a W hC hd hsz hf hv hJ hL hW K hK => ?_, fun D2 a W hC hd hsz hf hv hJ hL hW K hK => ?_, fun D2 a W hC hd hsz hf hv hJ hL hW K hK => ?_, fun D2 a W hC hd hsz hf hv hJ hL hW K hK => ?_, fun D2 a W hC hd hsz hf hv hJ hL hW K hK => ?_, fun D2 a W hC hd hsz hf hv hJ hL hW K hK => ?_, fun D2 a W hC hd hsz hf hv hJ hL hW K hK => ?_, fun D2 a W hC hd hsz hf hv hJ hL hW K hK => ?_, fun D2 a W hC hd hsz hf hv hJ hL hW K hK => ?_, trivial⟩
    · clear hsz
      have e1 := slot_of (a := a) (s := 0) (v := .pointer (some ⟨p, 0, none⟩)) (hf 0 (by kernel_rfl))
      refine step_run (wanted_none rfl) (v := .pointer (some ⟨p, 0, none⟩)) (w' := W) ?_ (hK _ _ trivial trivial rfl (hJ.same 0 _ _ (by decide) (by decide) ls0))
      go_simp
    · clear hsz
      have e1 := slot_of (a := a) (s := 0) (v := .pointer (some ⟨p, 0, none⟩)) (hf 0 (by kernel_rfl))
      refine step_run (wanted_none rfl) (v := .pointer (some ⟨p, 0, none⟩)) (w' := W) ?_ (hK _ _ trivial trivial rfl (hJ.same 1 _ _ (by decide) (by decide) ls0))
      go_simp
    · clear hsz
      have e1 := slot_of (a := a) (s := 23) (v := .pointer (some ⟨p, 0, none⟩)) (hv 1 (by kernel_rfl))
      refine step_run (wanted_none rfl) (v := .pointer (some ⟨p, 0, none⟩)) (w' := W) ?_ (hK _ _ trivial trivial rfl (hJ.same 2 _ _ (by decide) (by decide) (ls1 (hW 1 (by kernel_rfl)))))
      go_simp
    · clear hsz
      have e1 := slot_of (a := a) (s := 24) (v := .pointer (some ⟨p, 0, none⟩)) (hv 2 (by kernel_rfl))
      refine step_run (wanted_none rfl) (v := .pointer (some ⟨p, 1, none⟩)) (w' := W) ?_ (hK _ _ trivial trivial rfl (hJ.same 3 _ _ (by decide) (by decide) (ls1 (hW 2 (by kernel_rfl)))))
      go_simp
    · clear hsz
      have e1 := slot_of (a := a) (s := 25) (v := .pointer (some ⟨p, 1, none⟩)) (hv 3 (by kernel_rfl))
      obtain ⟨o1, o2⟩ := hJ.get 4 [9, 12] rfl rfl hL
      have cc := o1.cell 1
      simp only [List.getElem?_toArray, List.getElem?_cons_zero, List.getElem?_cons_succ] at cc
      refine step_run (wanted_none rfl) (v := .slice A r c) (w' := W) ?_ (hK _ _ trivial trivial rfl (hJ.same 4 _ _ (by decide) (by decide) (ls1 (hW 3 (by kernel_rfl)))))
      go_simp
    · clear hsz
      have e1 := slot_of (a := a) (s := 1) (v := .int .i64 (k : Int)) (hf 1 (by kernel_rfl))
      refine step_run (wanted_none rfl) (v := .int .i64 (k : Int)) (w' := W) ?_ (hK _ _ trivial trivial rfl (hJ.same 5 _ _ (by decide) (by decide) ls0))
      go_simp
    · clear hsz
      obtain ⟨o1, o2⟩ := hJ.get 6 [7, 8, 9, 12] rfl rfl hL
      refine step_load_row rfl 26 (.tmp 5) rfl g0 (eval_of (hf 5 (by kernel_rfl))) 26 (rowOf D) o2 _ Try.underlying26 rfl HI.out ?_
      exact hK _ _ trivial trivial rfl (hJ.same 6 _ _ (by decide) (by decide) ls0)
    · clear hsz
      have e1 := eval_of (a := a) (s := 27) (v := .int .i64 (k : Int)) (hv 5 (by kernel_rfl))
      have e2 := eval_of (a := a) (s := 28) (v := .agg (rowOf D)) (hv 6 (by kernel_rfl))
      refine step_built (wanted_none rfl) 72 #[(0, .tmp 27), (1, .tmp 28)] rfl (lsR (k, D)) ?_ ?_
      · simp only [List.map_toArray, List.map_cons, List.map_nil, e1, e2]
        exact built_ls k D HD.out
      · exact hK _ _ trivial trivial rfl (hJ.same 7 _ _ (by decide) (by decide) (ls2 (hW 5 (by kernel_rfl)) (hW 6 (by kernel_rfl))))
    · have e1 := eval_of (a := a) (s := 29) (v := .agg (lsR (k, D))) (hv 7 (by kernel_rfl))
      rw [hJ.z hL]
      obtain ⟨o1, o2⟩ := OLD0.out
      have HLT : 30 < a.tmps.size := (by rw [hsz]; simp)
      clear hsz
      refine step_run (wanted_none rfl) (v := .slice (some ⟨W0.heap.size, 0, none⟩) 1 1) (w' := W0.alloc (.cells (lsR (k, D)) 72)) ?_ (hK _ _ trivial trivial trivial (hJ.lay _ hL (by decide) (ls1 (hW 7 (by kernel_rfl))) rfl rfl HLT ⟨o1.alloc _, o2.alloc _⟩ ⟨rfl, rfl⟩))
      unfold execOp
      simp only [Sem.run_bind, Sem.run_pure, List.map_toArray, List.map_cons, List.map_nil, e1, run_oneS W0 (k, D) HD.out, Result.andThen_ok]
    · obtain ⟨b1, b2⟩ := hJ.b (hW 8 (by kernel_rfl)) hL
      obtain ⟨o1, o2⟩ := hJ.get 9 [12] rfl rfl hL
      subst b2
      have e1 := eval_of (a := a) (s := 26) (v := .slice A r c) (hv 4 (by kernel_rfl))
      have e2 := eval_of b1
      have HLT : 31 < a.tmps.size := (by rw [hsz]; simp)
      clear hsz
      have hrow := (World.ownsRow.alloc LO0.out (.cells (lsR (k, D)) 72))
      obtain ⟨A2, c2, W2, hrun, k1, k2⟩ := run_appLs hrow (k, D) HD.out W0.heap.size (Bk.new W0 _ _) 45 1 HR6.out (by have := HW1.out; have := BE0.out.size; simp; omega)
      rw [HR.out] at hrun k1 k2
      rw [if_pos (wanted_none rfl)]
      unfold Oper.wp execOp
      simp only [resolve, invoke, builtin, Sem.run_bind, Sem.run_pure, Result.andThen_ok, List.map_toArray, List.map_cons, List.map_nil, e1, e2, hrun]
      have hne : ∀ {g : Nat} {t : TypeId} {cs : Array Value}, Bk (W0.alloc (.cells (lsR (k, D)) 72)) g t cs → t ≠ 72 → some g ≠ (Value.slice A r c).ownBlock := fun hb ht => by rw [HR.out] at hrow; exact hb.neRow hrow ht
      exact hK _ _ trivial trivial trivial (hJ.app _ hL (by decide) (ls2 (hW 4 (by kernel_rfl)) (hW 8 (by kernel_rfl))) (hW 8 (by kernel_rfl)) rfl HLT ⟨o1.grown k2 (hne o1 (by decide)), o2.grown k2 (hne o2 (by decide))⟩ ⟨A2, c2, rfl, k1, k2⟩)
    · clear hsz
      have e1 := slot_of (a := a) (s := 22) (v := .pointer (some ⟨p, 0, none⟩)) (hv 0 (by kernel_rfl))
      refine step_run (wanted_none rfl) (v := .pointer (some ⟨p, 0, none⟩)) (w' := W) ?_ (hK _ _ trivial trivial rfl (hJ.same 10 _ _ (by decide) (by decide) ls0))
      go_simp
    · clear hsz
      have e1 := slot_of (a := a) (s := 32) (v := .pointer (some ⟨p, 0, none⟩)) (hv 10 (by kernel_rfl))
      refine step_run (wanted_none rfl) (v := .pointer (some ⟨p, 1, none⟩)) (w' := W) ?_ (hK _ _ trivial trivial rfl (hJ.same 11 _ _ (by decide) (by decide) (ls1 (hW 10 (by kernel_rfl)))))
      go_simp
    · clear hsz
      obtain ⟨A2, c2, c1, c3, c4⟩ := hJ.c (hW 9 (by kernel_rfl)) hL
      obtain ⟨o1, o2⟩ := hJ.old hL
      have e1 := slot_of (a := a) (s := 33) (v := .pointer (some ⟨p, 1, none⟩)) (hv 11 (by kernel_rfl))
      have e2 := slot_of c1
      have cc := o1.cell 1
      have cf := o1.frozen 1
      simp only [List.getElem?_toArray, List.getElem?_cons_zero, List.getElem?_cons_succ] at cc
      have hib : D2 8 = true := hJ.cl 9 (hW 9 (by kernel_rfl)) 8 (by simp [dpsR])
      refine step_skip (wanted_none rfl) (w' := W.setCell ⟨p, 1, none⟩ (.slice A2 (r + 1) c2)) ?_ (hK undef _ trivial trivial trivial (hJ.store (by decide) (ls2 (hW 11 (by kernel_rfl)) (hW 9 (by kernel_rfl))) hib (hW 9 (by kernel_rfl)) _ (rf_of HV.out HK.out HD.out HR.out BE0.out HW1.out LO0.out o1 c3 c4)))
      go_simp
  · intro f wz hC4 hv4 L2 hL2 hJ2
    obtain ⟨aE, hJ, hfr⟩ := hJ2
    have k0 := hJ.fin (hL2 12 (by decide))
    have M := hidD_ k0
    have cb := rburn_any k0.1
    simp only [framed, List.foldl_cons, List.foldl_nil, List.setIfInBounds_toArray, List.set_cons_succ, List.set_cons_zero]
    clear hv4 hC4 hJ hfr hL2 k0
    rename_i K hK
    refine hK _ _ ?_
    by_cases hf1 : fu = 1
    · rw [show burnO fu false = true by simp [burnO, hf1]] at cb
      rw [show burnO fu false = true by simp [burnO, hf1], show burnE fu = 9 from if_pos hf1]
      go_wp2_with (go_at_call 31; ((with_reducible refine cb.mono ?_); clear cb; rintro e w5 ⟨rfl, y1, y2, y3⟩; have Y1 := hidD_ y1; have Y2 := hidD_ y2; have Y3 := hidD_ y3; clear y1 y2 y3))
      go_ret
      exact ⟨rfl, Y1.out, ((HB1.out.mono HB0.out).trans M.out.2.1).trans Y2.out, ((UnT.of_below HB1.out).trans M.out.2.2).trans Y3.out⟩
    · rw [show burnO fu false = false by simp [burnO, hf1]] at cb
      rw [show burnO fu false = false by simp [burnO, hf1], show burnE fu = 0 from if_neg hf1]
      go_wp2_with (go_at_call 31; ((with_reducible refine cb.mono ?_); clear cb; rintro e w5 ⟨rfl, y1, y2, y3⟩; have Y1 := hidD_ y1; have Y2 := hidD_ y2; have Y3 := hidD_ y3; clear y1 y2 y3))
      go_ret
      exact ⟨rfl, Y1.out, ((HB1.out.mono HB0.out).trans M.out.2.1).trans Y2.out, ((UnT.of_below HB1.out).trans M.out.2.2).trans Y3.out⟩
end
end Go.Proofs.Ytibnfldddpmafaa
