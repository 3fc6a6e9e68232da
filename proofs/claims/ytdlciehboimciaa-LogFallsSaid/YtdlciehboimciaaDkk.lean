/-
  A disk: Crash.
-/
import Derived.Test.YtdlciehboimciaaDE
namespace Go.Proofs.Ytdlciehboimciaa
set_option maxRecDepth 100000
open Go.RowKit Go.Shelf
set_option linter.unusedVariables false
set_option linter.unusedSimpArgs false

attribute [local go_sem] Oper.semAt_some
/-! What a turn of something that is no cells leaves. -/
section
variable {B b0 : Nat} {w W W' : World} {row : Option Nat} {T : List TypeId}
theorem Bk.turned {k : Nat} {t : TypeId} {cs : Array Value} (h : Bk W k t cs) (hg : W.grownBy W' row) (hr : ∀ r, row = some r → B ≤ r ∧ ∃ o : Obj, W.heap[r]? = some o ∧ o.isCells = false) : Bk W' k t cs :=
  h.grown hg fun e => by
    obtain ⟨_, o, ho, hc⟩ := hr k e.symm
    rw [show W.heap[k]? = _ from h] at ho
    cases ho
    cases hc
theorem row_turned {base size n : Nat} {e : TypeId} {v : Value} {xs : List Value} (h : W.ownsRow base e size v n xs) (hg : W.grownBy W' row) (hr : ∀ r, row = some r → B ≤ r ∧ ∃ o : Obj, W.heap[r]? = some o ∧ o.isCells = false) : W'.ownsRow base e size v n xs :=
  ownsRow_heapk h fun g hv => by
    obtain ⟨_, hlt, cs, hh⟩ := ownsRow_ty h g hv
    refine hg.block g hlt fun e2 => ?_
    obtain ⟨_, o, ho, hc⟩ := hr g e2.symm
    rw [hh] at ho
    cases ho
    cases hc
theorem below_turned (h : Below b0 w W) (hb : b0 ≤ B) (hB : b0 ≤ W.heap.size) (hg : W.grownBy W' row) (hr : ∀ r, row = some r → B ≤ r ∧ ∃ o : Obj, W.heap[r]? = some o ∧ o.isCells = false) : Below b0 w W' :=
  h.grown hg hB fun k e => Nat.le_trans hb (hr k e).1
theorem unt_turned (h : UnT T w W) (hb : w.heap.size ≤ B) (hg : W.grownBy W' row) (hr : ∀ r, row = some r → B ≤ r ∧ ∃ o : Obj, W.heap[r]? = some o ∧ o.isCells = false) : UnT T w W' :=
  ⟨Nat.le_trans h.1 hg.size, fun k hk ht => (hg.block k (Nat.lt_of_lt_of_le hk h.1) (fun e => by have := (hr k e.symm).1; omega)).trans (h.2 k hk ht)⟩
end
/-- A disk while its sectors turn: S stands there; what else the call has to know. -/
structure CrI (b0 : Nat) (w W : World) (p q n g0 : Nat) (v : Value) (fu : Nat) (off : Bool) (r : Nat) (L : List WsV) (S : List (List UInt8)) : Prop where
  bg : Bk W g0 24 #[.pointer (some ⟨p, 0, none⟩)]
  bp : Bk W p 67 #[.slice (some ⟨q, 0, none⟩) n n, v, .int .i64 (fu : Int), .bool off]
  lo : W.ownsRow b0 86 129 v r (flatC wrR L)
  bq : Bk W q 58 (flatC rowOf S).toArray
  be : Below b0 w W
  un : UnT dkT w W
section
variable {b0 : Nat} {w W W' : World} {p q n g0 : Nat} {v : Value} {fu : Nat} {off : Bool} {r : Nat} {L : List WsV} {S : List (List UInt8)}
theorem CrI.turned {B : Nat} {row : Option Nat} (h : CrI b0 w W p q n g0 v fu off r L S) (hb0 : b0 ≤ w.heap.size) (hB : w.heap.size ≤ B) (hg : W.grownBy W' row) (hr : ∀ r, row = some r → B ≤ r ∧ ∃ o : Obj, W.heap[r]? = some o ∧ o.isCells = false) : CrI b0 w W' p q n g0 v fu off r L S :=
  ⟨h.bg.turned hg hr, h.bp.turned hg hr, row_turned h.lo hg hr, h.bq.turned hg hr, below_turned h.be (Nat.le_trans hb0 hB) (Nat.le_trans hb0 h.un.1) hg hr, unt_turned h.un hB hg hr⟩
theorem CrI.below (h : CrI b0 w W p q n g0 v fu off r L S) (hb0 : b0 ≤ w.heap.size) (hb : Below W.heap.size W W') : CrI b0 w W' p q n g0 v fu off r L S :=
  ⟨h.bg.below hb h.bg.lt, h.bp.below hb h.bp.lt, ownsRow_heapk h.lo fun g hg => hb.block g (ownsRow_ty h.lo g hg).2.1, h.bq.below hb h.bq.lt, h.be.trans (hb.mono (Nat.le_trans hb0 h.un.1)), h.un.trans (UnT.of_below hb)⟩
theorem CrI.drew (h : CrI b0 w W p q n g0 v fu off r L S) : CrI b0 w { W with drawn := W.drawn + 1 } p q n g0 v fu off r L S :=
  ⟨h.bg, h.bp, h.lo, h.bq, ⟨h.be.os, h.be.tape, h.be.output, h.be.size, h.be.block⟩, h.un⟩
/-- One sector turns. -/
theorem CrI.put (h : CrI b0 w W p q n g0 v fu off r L S) (hb0 : b0 ≤ w.heap.size) (hq : b0 ≤ q) (S' : List (List UInt8)) : CrI b0 w (W.setRow q (flatC rowOf S').toArray) p q n g0 v fu off r L S' :=
  ⟨h.bg.rowfar (h.bg.neT h.bq (by decide)) _, h.bp.rowfar (h.bp.neT h.bq (by decide)) _, ownsRow_heapk h.lo fun g e => setRow_other W q g _ fun e2 => by
      subst e2
      exact h.bq.neRow h.lo (by decide) e.symm, h.bq.rowed _, h.be.grown (setRow_grown W q _) (Nat.le_trans hb0 h.un.1) (fun k e => by injection e with e; subst e; exact hq), h.un.trans (UnT.of_grown (setRow_grown W q _) fun k e => by
      injection e with e
      subst e
      exact ⟨_, _, _, h.bq, by simp [dkT]⟩)⟩
end
theorem wrR_cells (x : WsV) (h1 : x.2.1.length = 64) (h2 : x.2.2.length = 64) : (wrR x)[0]? = some (.int .i64 (x.1 : Int)) ∧ (∀ j, j < (rowOf x.2.1).size → (wrR x)[1 + j]? = (rowOf x.2.1)[j]?) ∧ (∀ j, j < (rowOf x.2.2).size → (wrR x)[65 + j]? = (rowOf x.2.2)[j]?) := by
  refine ⟨?_, fun j hj => ?_, fun j hj => ?_⟩
  · unfold wrR
    rw [Array.append_assoc, Array.getElem?_append_left (by simp)]
    rfl
  · rw [rowOf_size, h1] at hj
    unfold wrR
    rw [Array.getElem?_append_left (by simp [rowOf_size, h1]; omega), Array.getElem?_append_right (by simp)]
    simp
  · rw [rowOf_size, h2] at hj
    unfold wrR
    rw [Array.getElem?_append_right (by simp [rowOf_size, h1])]
    simp [rowOf_size, h1]
theorem wrR_all (x : WsV) : (wrR x).all (·.oneCell') = true := by
  rw [Array.all_eq_true_iff_forall_mem]
  exact fun v hv => wrR_one x v (by simpa using hv)
theorem iWr (x : WsV) (h1 : x.2.1.length = 64) (h2 : x.2.2.length = 64) : (Try.prog.info? 86).map (·.size) = some (wrR x).size := by rw [wrR_size x h1 h2]; kernel_rfl
theorem zeroWr (W : World) : (zeroValue 86).run Try.prog W = .ok (.agg (wrR (0, zsec, zsec))) W := by kernel_rfl
/-- What a part of what comes undoes. -/
def undP {n : Nat} (S : List (List UInt8)) (pre : List (BwV n)) : List (List UInt8) := undL S (pre.map fun y => y.1)
theorem undP_snoc {n : Nat} (S : List (List UInt8)) (pre : List (BwV n)) (x : BwV n) : undP S (pre ++ [x]) = (undP S pre).set x.1.2.1 x.1.2.2.1 := by
  unfold undP
  rw [List.map_append]
  exact undL_snoc _ _ _
theorem undP_all {n : Nat} {S : List (List UInt8)} (h : ∀ D ∈ S, D.length = 64) (pre : List (BwV n)) : ∀ D ∈ undP S pre, D.length = 64 := und_all _ _ h (fun y hy => by
  obtain ⟨z, _, rfl⟩ := List.mem_map.1 hy
  exact z.2.2.1)
theorem wasL_ok {n : Nat} : ∀ {R : List WrV} {F : List (List UInt8)}, F.length = n → (∀ D ∈ F, D.length = 64) → (∀ x ∈ R, x.1 < n ∧ x.2.length = 64) → ∀ x ∈ wasL F R, x.1 < n ∧ x.2.1.length = 64 ∧ x.2.2.length = 64
  | [], F, _, _, _, x, hx => by cases hx
  | y :: R, F, hF, h64, hR, x, hx => by
    obtain ⟨h1, h2⟩ := hR y (by simp)
    simp only [wasL, List.mem_cons] at hx
    rcases hx with rfl | hx
    · exact ⟨h1, getD_mem64 h64 _ (by rw [hF]; exact h1), h2⟩
    · exact wasL_ok (by rw [List.length_set]; exact hF) (fun D hD => by
        rcases List.mem_or_eq_of_mem_set hD with h3 | h3
        · exact h64 D h3
        · rw [h3]; exact h2) (fun z hz => hR z (List.mem_cons_of_mem _ hz)) x hx
/-- What a line that puts a sector back leaves. -/
def CsR (p q n Bx at_ o : Nat) (D : List UInt8) : Nat → Value → Prop
  | 0, v => v = .pointer (some ⟨p, 0, none⟩)
  | 1, v => v = .pointer (some ⟨p, 0, none⟩)
  | 2, v => v = .pointer (some ⟨p, 0, none⟩)
  | 3, v => v = .slice (some ⟨q, 0, none⟩) n n
  | 4, v => v = .pointer (some ⟨Bx, 0, none⟩)
  | 5, v => v = .int .i64 (at_ : Int)
  | 6, v => v = .pointer (some ⟨Bx, o, none⟩)
  | 7, v => v = .agg (rowOf D)
  | 8, v => v = .pointer (some ⟨q, at_ * 64, none⟩)
  | _, _ => True
def dpsC : Nat → List Nat
  | 1 => [0]
  | 2 => [1]
  | 3 => [2]
  | 5 => [4]
  | 7 => [6]
  | 8 => [3, 5]
  | 9 => [8, 7]
  | _ => []

/-- The three last stores, in whatever order. -/
structure ThJ (w1 : World) (p q n : Nat) (v : Value) (fu : Nat) (off : Bool) (i1 i2 i3 : Nat) (D : Nat → Bool) (W : World) : Prop where
  bp : Bk W p 67 #[.slice (some ⟨q, 0, none⟩) n n, if D i1 = true then .slice none 0 0 else v, if D i2 = true then .int .i64 0 else .int .i64 (fu : Int), if D i3 = true then .bool false else .bool off]
  gr : w1.grownBy W (some p)
section
variable {w1 W W' : World} {p q n : Nat} {v : Value} {fu : Nat} {off : Bool} {i1 i2 i3 : Nat} {D : Nat → Bool}
theorem ThJ.same (h : ThJ w1 p q n v fu off i1 i2 i3 D W) (i : Nat) (hi : i1 ≠ i ∧ i2 ≠ i ∧ i3 ≠ i) : ThJ w1 p q n v fu off i1 i2 i3 (fun j => decide (j = i) || D j) W := by
  refine ⟨?_, h.gr⟩
  rw [orf_ne hi.1, orf_ne hi.2.1, orf_ne hi.2.2]
  exact h.bp
theorem ThJ.s1 (h : ThJ w1 p q n v fu off i1 i2 i3 D W) (h2 : i2 ≠ i1 ∧ i3 ≠ i1) : ThJ w1 p q n v fu off i1 i2 i3 (fun j => decide (j = i1) || D j) (W.setCell ⟨p, 1, none⟩ (.slice none 0 0)) := by
  refine ⟨?_, grown_put h.gr 1 _⟩
  rw [orf_eq, orf_ne h2.1, orf_ne h2.2]
  exact h.bp.set_ 1 _
theorem ThJ.s2 (h : ThJ w1 p q n v fu off i1 i2 i3 D W) (h2 : i1 ≠ i2 ∧ i3 ≠ i2) : ThJ w1 p q n v fu off i1 i2 i3 (fun j => decide (j = i2) || D j) (W.setCell ⟨p, 2, none⟩ (.int .i64 0)) := by
  refine ⟨?_, grown_put h.gr 2 _⟩
  rw [orf_eq, orf_ne h2.1, orf_ne h2.2]
  exact h.bp.set_ 2 _
theorem ThJ.s3 (h : ThJ w1 p q n v fu off i1 i2 i3 D W) (h2 : i1 ≠ i3 ∧ i2 ≠ i3) : ThJ w1 p q n v fu off i1 i2 i3 (fun j => decide (j = i3) || D j) (W.setCell ⟨p, 3, none⟩ (.bool false)) := by
  refine ⟨?_, grown_put h.gr 3 _⟩
  rw [orf_eq, orf_ne h2.1, orf_ne h2.2]
  exact h.bp.set_ 3 _
end
def ThR (p g0 : Nat) : Nat → Value → Prop
  | 0, v => v = .pointer (some ⟨p, 0, none⟩)
  | 1, v => v = .pointer (some ⟨p, 0, none⟩)
  | 2, v => v = .pointer (some ⟨p, 0, none⟩)
  | 3, v => v = .pointer (some ⟨p, 0, none⟩)
  | 4, v => v = .pointer (some ⟨p, 1, none⟩)
  | 6, v => v = .pointer (some ⟨p, 0, none⟩)
  | 7, v => v = .pointer (some ⟨p, 2, none⟩)
  | 9, v => v = .pointer (some ⟨p, 0, none⟩)
  | 10, v => v = .pointer (some ⟨p, 3, none⟩)
  | _, _ => True
set_option maxRecDepth 100000 in
set_option maxHeartbeats 1000000 in
theorem dcrash_nil (w : World) (A0 : Option Addr) (ns c0 : Nat) : Calls Try.prog 25 #[.pointer none, .slice A0 ns c0] w fun e w' => e = .returned (.tuple #[]) ∧ Below w.heap.size w w' := by
  obtain ⟨g0, hg0⟩ : ∃ g, w.heap.size = g := ⟨_, rfl⟩
  obtain ⟨w1, hw1⟩ : ∃ W, w.alloc (.cells #[.pointer none] 24) = W := ⟨_, rfl⟩
  have b1 : Below w.heap.size w w1 := by rw [← hw1]; exact (Below.refl _ _).alloc (Nat.le_refl _) _
  have K1 : Bk w1 g0 24 #[.pointer none] := by rw [← hw1, ← hg0]; exact Bk.new w _ _
  have ci := made_nil w1
  have kc := K1.cell 0
  simp only [List.getElem?_toArray, List.getElem?_cons_zero] at kc
  have B1 := hidD_ b1
  clear b1 K1
  refine (callsIn_wide (n := 6)).1 ?_
  refine callsIn_of_wp_marks Try.func25 rfl trivial ?_ rfl
  simp only [Try.ntmps25, List.size_toArray, List.length_cons, List.length_nil, Nat.reduceAdd, Nat.reduceSub, Array.replicate_succ, Array.replicate_zero, List.push_toArray, List.append_toArray, List.nil_append, List.cons_append]
  gi_wp2_with (refine ⟨trivial, ?_⟩; gi_at_call 41; refine (callsIn_wide.2 ci).mono ?_; rintro e w' ⟨rfl, rfl⟩)
  exact ⟨_, results_none rfl _ _ _, rfl, B1.out⟩
section
variable {b0 : Nat} {w : World} {p q n : Nat} {F : List (List UInt8)} {R : List WrV} {fu : Nat} {off : Bool}
set_option maxRecDepth 100000 in
set_option maxHeartbeats 8000000 in
theorem dcrash_any (h : DkI b0 w p q n F R fu off) (hb0 : b0 ≤ w.heap.size) (hm : R.length ≤ 1000000) (A0 : Option Addr) (ns c0 : Nat) (S : List Bool) (hns : S.length = ns)
    (hst : ∀ W, Below b0 w W → UnT dkT w W → ∀ j, j < ns → ∃ blk o, A0 = some ⟨blk, o, none⟩ ∧ W.cell? ⟨blk, o + j, none⟩ = some (.bool (S.getD j false))) :
    Calls Try.prog 25 #[.pointer (some ⟨p, 0, none⟩), .slice A0 ns c0] w fun e w' => e = .returned (.tuple #[]) ∧ DkI b0 w' p q n (appl F (kept R S)) [] 0 false ∧ Below b0 w w' ∧ UnT dkT w w' := by
  obtain ⟨g0, hg0⟩ : ∃ g, w.heap.size = g := ⟨_, rfl⟩
  obtain ⟨w1, hw1⟩ : ∃ W, w.alloc (.cells #[.pointer (some ⟨p, 0, none⟩)] 24) = W := ⟨_, rfl⟩
  have b1 : Below w.heap.size w w1 := by rw [← hw1]; exact (Below.refl _ _).alloc (Nat.le_refl _) _
  have K1 : Bk w1 g0 24 #[.pointer (some ⟨p, 0, none⟩)] := by rw [← hw1, ← hg0]; exact Bk.new w _ _
  have hs1 : w1.heap.size = g0 + 1 := by rw [← hw1, ← hg0]; simp
  have h1 := h.below b1
  have ci := made_yes h1
  obtain ⟨v, hv⟩ := h1
  obtain ⟨A, c, rfl⟩ := hv.form
  obtain ⟨c0', c1', c2', c3'⟩ := hv.cells
  have kc := K1.cell 0
  simp only [List.getElem?_toArray, List.getElem?_cons_zero] at kc
  have HV := hidD_ hv
  have HW1 := hidD_ hw1
  have C1 := hidD_ (show CrI b0 w w1 p q n g0 (.slice A R.length c) fu off R.length (wasL F R) (undP (n := n) (appl F R) []) from ⟨K1, hv.bp, hv.lo, hv.bq, (b1.mono hb0), UnT.of_below b1⟩)
  have HB0 := hidD_ hb0
  have HB1 := hidD_ (show b0 ≤ w1.heap.size from Nat.le_trans hb0 b1.size)
  have HST := hidD_ hst
  have HG0 := hidD_ hg0
  have HS1 := hidD_ hs1
  clear hst h b1 K1 hv hb0 hs1
  refine (callsIn_wide (n := 6)).1 ?_
  refine callsIn_of_wp_marks Try.func25 rfl trivial ?_ rfl
  simp only [Try.ntmps25, List.size_toArray, List.length_cons, List.length_nil, Nat.reduceAdd, Nat.reduceSub, Array.replicate_succ, Array.replicate_zero, List.push_toArray, List.append_toArray, List.nil_append, List.cons_append]
  gi_wp2_with (first
    | (refine ⟨trivial, ?_⟩; gi_at_call 41; refine (callsIn_wide.2 ci).mono ?_; rintro e w' ⟨rfl, rfl⟩)
    | (refine ⟨trivial, ?_⟩; gi_at_call 46; refine (back_in Fence.wide _ trivial rfl _ _ _ _).mono ?_; rintro e w' ⟨rfl, rfl⟩))
  obtain ⟨w2, hw2⟩ : ∃ W, w1.alloc (.cells #[.slice A R.length c] 65) = W := ⟨_, rfl⟩
  have b2 : Below w1.heap.size w1 w2 := by rw [← hw2]; exact (Below.refl _ _).alloc (Nat.le_refl _) _
  have K2 : Bk w2 w1.heap.size 65 #[.slice A R.length c] := by rw [← hw2]; exact Bk.new w1 _ _
  have hs2 : w2.heap.size = w1.heap.size + 1 := by rw [← hw2]; simp
  have C2 := C1.out.below HB0.out b2
  have hw2s : w.heap.size ≤ w2.heap.size := Nat.le_trans C1.out.un.1 b2.size
  rw [hw2]
  clear hw2
  have kc2 := K2.cell 0
  simp only [List.getElem?_toArray, List.getElem?_cons_zero] at kc2
  have hWas : ∀ x ∈ wasL F R, x.1 < n ∧ x.2.1.length = 64 ∧ x.2.2.length = 64 := wasL_ok HV.out.hF HV.out.F64 HV.out.hR
  have hlen := wasL_len R F
  have hSeq := back_stops Fence.wide 5 trivial rfl (by omega) w1.heap.size w2.heap.size q n b0 A c (wasL F R) hWas (by rw [hlen]; exact hm) w2 (by omega) (by have := HV.out.bq.lt; omega) (Nat.le_refl _) (by rw [hlen]; exact kc2) (by rw [hlen]; exact C2.lo)
    (fun g hg => by
      rw [hlen] at hg
      obtain ⟨_, hlt, cs, hh⟩ := ownsRow_ty C2.lo g hg
      exact ⟨hlt, fun e => by subst e; exact C2.bq.neRow C2.lo (by decide) hg.symm⟩)
  refine wpIn_rangeFunc_ownH (F := Fence.wide) (n := 6) rfl (by omega) (gf := 64) (lb := #[.pointer (some ⟨w1.heap.size, 0, none⟩)]) rfl trivial (enters_of Try.func64 (by kernel_rfl) rfl)
    hSeq (fun h k => KpQ.trans h k) (fun W l o o' hl hh _ _ => ⟨by simp, fun k hk _ => World.putObj_heap_other (by omega)⟩) (Below.refl _ _) (fun _ => rfl)
    (fun (pre : List (BwV n)) W => CrI b0 w W p q n g0 (.slice A R.length c) fu off R.length (wasL F R) (undP (appl F R) pre) ∧ w2.heap.size ≤ W.heap.size)
    (fun _ _ _ => False)
    (fun s X Y row hs hg hr => ⟨hs.1.turned HB0.out hw2s hg hr, Nat.le_trans hs.2 hg.size⟩)
    (fun _ _ _ _ _ hs _ _ => hs)
    ⟨C2, Nat.le_refl _⟩
    (fun (x : BwV n) a' W => ∃ Bx, w2.heap.size ≤ Bx ∧ Bk W Bx 86 (wrR x.1.2) ∧ a' = { tmps := #[.pointer (some ⟨p, 0, none⟩), .slice A0 ns c0, .pointer (some ⟨g0, 0, none⟩), undef, undef, .pointer (some ⟨Bx, 0, none⟩), undef, undef, .pointer (some ⟨p, 0, none⟩), .bool true, .bool false, .pointer (some ⟨p, 0, none⟩), .pointer (some ⟨p, 0, none⟩), .pointer (some ⟨p, 1, none⟩), .slice A R.length c, .func (.func 64) #[] #[.pointer (some ⟨w1.heap.size, 0, none⟩)], .int .i64 (x.1.1 : Int), .agg (wrR x.1.2), undef, undef, undef, undef, undef, undef, undef, undef, undef, undef, undef, undef, undef, undef, undef, undef, undef, undef, undef, undef, undef, undef, undef, undef, undef, undef, undef, undef, undef, undef, undef, undef, undef, undef, undef, undef, undef, undef, undef, undef, undef, undef, undef, undef, undef, undef, undef, undef], defers := [] })
    (fun x a' _ X Y row hs hg hr => by obtain ⟨Bx, h1, h2, h3⟩ := hs; exact ⟨Bx, h1, h2.turned hg hr, h3⟩)
    ?assign ?body ?done ?stop
  case assign =>
    rintro l pre x W K ⟨hI, hlt2⟩ hK
    have hz := zeroWr W
    have hxs := hI.un.1
    obtain ⟨gx, hgx⟩ : ∃ g, W.heap.size = g := ⟨_, rfl⟩
    obtain ⟨wa, hwa⟩ : ∃ W2, W.alloc (.cells (wrR (0, zsec, zsec)) 86) = W2 := ⟨_, rfl⟩
    have KA := hidD_ (show Bk wa gx 86 (wrR (0, zsec, zsec)) by rw [← hwa, ← hgx]; exact Bk.new W _ _)
    have BA := hidD_ (show Below gx W wa by rw [← hwa, ← hgx]; exact (Below.refl _ _).alloc (Nat.le_refl _) _)
    gi_wp2_with (refine wpListIn_put_row rfl 86 (.tmp 5) (.tmp 17) rfl gx (wrR x.1.2) rfl rfl 86 (wrR (0, zsec, zsec)) KA.out (iWr _ x.2.2.1 x.2.2.2) (by rw [wrR_size _ zsec_len zsec_len, wrR_size _ x.2.2.1 x.2.2.2]) (wrR_all _) ?_; intro w9 k9 g9 s9)
    have hb9 : Below W.heap.size W w9 := by rw [hgx]; exact BA.out.grown g9 (by have := BA.out.size; omega) (fun k e => by injection e with e; omega)
    exact hK _ _ ⟨hb9.size, fun k o _ hk _ => (hb9.block k (Array.getElem?_eq_some_iff.1 hk).1).trans hk⟩ ⟨hb9.size, fun k hk _ => hb9.block k (by omega)⟩ ⟨hI.below HB0.out hb9, Nat.le_trans hlt2 hb9.size⟩ ⟨gx, by omega, k9, rfl⟩
  case body =>
    rintro l pre x a' W hl ⟨r, hr⟩ ⟨hI, hlt2⟩ ⟨Bx, hBx, bX, rfl⟩ hlt
    refine wpIn_block ?_
    obtain ⟨⟨kx, at_, X, Y⟩, hx1, hx2, hx3⟩ := x
    simp only at hx1 hx2 hx3 bX
    obtain ⟨wd, hwd⟩ : ∃ W3, { W with drawn := W.drawn + 1 } = W3 := ⟨_, rfl⟩
    have HO := hidD_ (show CrI b0 w wd p q n g0 (.slice A R.length c) fu off R.length (wasL F R) (undP (appl F R) pre) by rw [← hwd]; exact hI.drew)
    have HX := hidD_ (show Bk wd Bx 86 (wrR (at_, X, Y)) by rw [← hwd]; exact bX)
    have HQ := hidD_ (wrR_cells (at_, X, Y) hx2 hx3)
    have HI := hidD_ (iSec X hx2)
    have hS64 : ∀ D ∈ undP (appl F R) pre, D.length = 64 := undP_all HV.out.app64 pre
    have hSl : at_ < (undP (appl F R) pre).length := by unfold undP; rw [und_len, appl_len, HV.out.hF]; exact hx1
    have HSET := hidD_ (sec_set hS64 at_ hSl X hx2)
    have HSZ := hidD_ (sec_size hS64 at_ hSl X hx2)
    have t0 : (0 : Int) ≤ (at_ : Int) := by omega
    have tn : (at_ : Int) < (n : Int) := by omega
    have HWD := hidD_ hwd
    have HSIZ := hidD_ (show W.heap.size = wd.heap.size by rw [← hwd])
    have HHP := hidD_ (show wd.heap = W.heap by rw [← hwd])
    clear hI bX hwd hS64 hSl hlt hr
    refine region_byJFIn [18, 19, 20, 21, 22, 23, 24, 25, 26] (fun _ => True) (fun _ _ => True) (fun jj v _ => CsR p q n Bx at_ 1 X jj v) (fun D2 a W3 => PhJ dpsC 9 (fun W3 => W3 = wd) (fun W3 => W3 = wd.setRow q (flatC rowOf ((undP (appl F R) pre).set at_ X)).toArray) D2 a W3) ⟨plain_load rfl, plain_nil rfl, plain_field rfl, plain_load rfl, plain_field rfl, plain_load rfl, plain_field rfl, plain_load rfl, plain_index rfl, plain_store rfl, trivial⟩ (fun h => by obtain ⟨_, _, h⟩ := h; exact h) (by kernel_rfl) (by kernel_rfl) (by kernel_rfl) (by kernel_rfl) (fun j v w w' hT hr => ?_) (fun j v w hlt hj _ => ?_) trivial ?_ (by rw [HWD.out]; exact PhJ.start rfl) ?_
    · exact hr
    · rcases j with _ | _ | _ | _ | _ | _ | _ | _ | _ | _ | j
      all_goals first
        | (exfalso; simp [dstOf] at hj; done)
        | trivial
    · refine ⟨fun D2 a W3 hC hd hsz hf hv hJ hL hW K hK => ?_, fun D2 a W3 hC hd hsz hf hv hJ hL hW K hK => ?_, fun D2 a W3 hC hd hsz hf hv hJ hL hW K hK => ?_, fun D2 a W3 hC hd hsz hf hv hJ hL hW K hK => ?_, fun D2 a W3 hC hd hsz hf hv hJ hL hW K hK => ?_, fun D2 a W3 hC hd hsz hf hv hJ hL hW K hK => ?_, fun D2 a W3 hC hd hsz hf hv hJ hL hW K hK => ?_, fun D2 a W3 hC hd hsz hf hv hJ hL hW K hK => ?_, fun D2 a W3 hC hd hsz hf hv hJ hL hW K hK => ?_, fun D2 a W3 hC hd hsz hf hv hJ hL hW K hK => ?_, trivial⟩
      · clear hsz
        have e1 := slot_of (a := a) (s := 2) (v := .pointer (some ⟨g0, 0, none⟩)) (hf 2 (by kernel_rfl))
        have hw := hJ.get 0 [1, 2, 3, 8, 9] rfl rfl hL
        subst hw
        have cc := HO.out.bg.cell 0
        simp only [List.getElem?_toArray, List.getElem?_cons_zero] at cc
        refine step_run (wanted_none rfl) (v := .pointer (some ⟨p, 0, none⟩)) (w' := W3) ?_ (hK _ _ trivial trivial rfl (hJ.same 0 (by decide) ls0))
        go_simp
      · clear hsz
        have e1 := slot_of (a := a) (s := 18) (v := .pointer (some ⟨p, 0, none⟩)) (hv 0 (by kernel_rfl))
        refine step_run (wanted_none rfl) (v := .pointer (some ⟨p, 0, none⟩)) (w' := W3) ?_ (hK _ _ trivial trivial rfl (hJ.same 1 (by decide) (ls1 (hW 0 (by kernel_rfl)))))
        go_simp
      · clear hsz
        have e1 := slot_of (a := a) (s := 19) (v := .pointer (some ⟨p, 0, none⟩)) (hv 1 (by kernel_rfl))
        refine step_run (wanted_none rfl) (v := .pointer (some ⟨p, 0, none⟩)) (w' := W3) ?_ (hK _ _ trivial trivial rfl (hJ.same 2 (by decide) (ls1 (hW 1 (by kernel_rfl)))))
        go_simp
      · clear hsz
        have e1 := slot_of (a := a) (s := 20) (v := .pointer (some ⟨p, 0, none⟩)) (hv 2 (by kernel_rfl))
        have hw := hJ.get 3 [8, 9] rfl rfl hL
        subst hw
        have cc := HO.out.bp.cell 0
        simp only [List.getElem?_toArray, List.getElem?_cons_zero] at cc
        refine step_run (wanted_none rfl) (v := .slice (some ⟨q, 0, none⟩) n n) (w' := W3) ?_ (hK _ _ trivial trivial rfl (hJ.same 3 (by decide) (ls1 (hW 2 (by kernel_rfl)))))
        go_simp
      · clear hsz
        have e1 := slot_of (a := a) (s := 5) (v := .pointer (some ⟨Bx, 0, none⟩)) (hf 5 (by kernel_rfl))
        refine step_run (wanted_none rfl) (v := .pointer (some ⟨Bx, 0, none⟩)) (w' := W3) ?_ (hK _ _ trivial trivial rfl (hJ.same 4 (by decide) ls0))
        go_simp
      · clear hsz
        have e1 := slot_of (a := a) (s := 22) (v := .pointer (some ⟨Bx, 0, none⟩)) (hv 4 (by kernel_rfl))
        have hw := hJ.get 5 [8, 9] rfl rfl hL
        subst hw
        have cc := (HX.out.cell 0).trans HQ.out.1
        refine step_run (wanted_none rfl) (v := .int .i64 (at_ : Int)) (w' := W3) ?_ (hK _ _ trivial trivial rfl (hJ.same 5 (by decide) (ls1 (hW 4 (by kernel_rfl)))))
        go_simp
      · clear hsz
        have e1 := slot_of (a := a) (s := 5) (v := .pointer (some ⟨Bx, 0, none⟩)) (hf 5 (by kernel_rfl))
        refine step_run (wanted_none rfl) (v := .pointer (some ⟨Bx, 1, none⟩)) (w' := W3) ?_ (hK _ _ trivial trivial rfl (hJ.same 6 (by decide) ls0))
        go_simp
      · clear hsz
        have hw := hJ.get 7 [9] rfl rfl hL
        subst hw
        refine step_load_sub (wanted_none rfl) 58 (.tmp 24) rfl Bx 1 (eval_of (hv 6 (by kernel_rfl))) (rowOf X) (fun j hj => (HX.out.cell _).trans (HQ.out.2.1 j hj)) _ Try.underlying58 rfl HI.out ?_
        exact hK _ _ trivial trivial rfl (hJ.same 7 (by decide) (ls1 (hW 6 (by kernel_rfl))))
      · clear hsz
        have e1 := slot_of (a := a) (s := 21) (v := .slice (some ⟨q, 0, none⟩) n n) (hv 3 (by kernel_rfl))
        have e2 := slot_of (a := a) (s := 23) (v := .int .i64 (at_ : Int)) (hv 5 (by kernel_rfl))
        refine step_run (wanted_none rfl) (v := .pointer (some ⟨q, at_ * 64, none⟩)) (w' := W3) ?_ (hK _ _ trivial trivial rfl (hJ.same 8 (by decide) (ls2 (hW 3 (by kernel_rfl)) (hW 5 (by kernel_rfl)))))
        go_simp
      · clear hsz
        have hw := hJ.old hL
        subst hw
        refine step_store_mid (wanted_none rfl) 58 (.tmp 26) (.tmp 25) rfl q (at_ * 64) (eval_of (hv 8 (by kernel_rfl))) (rowOf X) (eval_of (hv 7 (by kernel_rfl))) 58 _ HO.out.bq HI.out HSZ.out (rowOf_ones _) ?_
        rw [HSET.out]
        exact hK undef _ trivial trivial trivial (hJ.store (ls2 (hW 8 (by kernel_rfl)) (hW 7 (by kernel_rfl))) rfl)
    · intro f wy hC5 hv5 L3 hL3 hJ3
      obtain ⟨aE, hJ, hfr⟩ := hJ3
      have e5 := hJ.fin (hL3 9 (by decide))
      subst e5
      have C3 := HO.out.put HB0.out HV.out.hq ((undP (appl F R) pre).set at_ X)
      have eP : (undP (appl F R) pre).set at_ X = undP (appl F R) (pre ++ [(⟨(kx, at_, X, Y), hx1, hx2, hx3⟩ : BwV n)]) := (undP_snoc (appl F R) pre (⟨(kx, at_, X, Y), hx1, hx2, hx3⟩ : BwV n)).symm
      rw [eP] at C3 ⊢
      have hg := setRow_grown wd q (flatC rowOf (undP (appl F R) (pre ++ [(⟨(kx, at_, X, Y), hx1, hx2, hx3⟩ : BwV n)]))).toArray
      refine ⟨⟨by rw [HSIZ.out]; exact hg.size, fun k o _ hk hc => ?_⟩, ⟨by rw [HSIZ.out]; exact hg.size, fun k hk hq => ?_⟩, C3, by have := hg.size; rw [← HSIZ.out] at this; omega⟩
      · rw [← HHP.out] at hk
        refine (hg.block k (Array.getElem?_eq_some_iff.1 hk).1 (fun e => ?_)).trans hk
        injection e with e
        subst e
        rw [show wd.heap[k]? = _ from HO.out.bq] at hk
        cases hk
        cases hc
      · rw [← HHP.out]
        exact setRow_other wd q k _ hq
  case done =>
    rintro D xs W hD hS ⟨hI, hszI⟩ hKD
    clear hszI
    have hfin : undP (appl F R) xs = F := by
      unfold undP
      rw [hS, hlen]
      exact und_whole F R (fun x hx => by rw [HV.out.hF]; exact (HV.out.hR x hx).1)
    rw [hfin] at hI
    rename_i Kc hKc
    refine hKc _ _ (wpIn_wide.2 ?_)
    have HDS := hidD_ (Nat.le_trans hw2s hD)
    have cg := hI.bg.cell 0
    have cp := hI.bp.cell 1
    simp only [List.getElem?_toArray, List.getElem?_cons_zero, List.getElem?_cons_succ] at cg cp
    have HI0 := hidD_ hI
    have HKD := hidD_ hKD
    have HWas := hidD_ hWas
    have HM := hidD_ hm
    clear hI hKD hS hfin hWas hSeq hKc hw2s hs2 kc2 K2 b2 C2 hlen
    obtain ⟨r, hr⟩ : ∃ r, R.length = r := ⟨_, rfl⟩
    rw [hr] at HI0 cp hm ⊢
    have HR := hidD_ hr
    clear hr
    go_wp2
    go_loopw [32] (fun i wr => ∃ k : Nat, k ≤ r ∧ i = .int .i64 k ∧ Hid (CrI b0 w wr p q n g0 (.slice A r c) fu off r (wasL F R) (appl F (kept (R.take k) S))) ∧ Hid (wr.heap[D]? = some (.deferred (some [])))) (fun i _ => r - (intOf i).toNat)
    case atStart => exact ⟨0, Nat.zero_le _, rfl, hidD_ (by rw [List.take_zero, kept_nil]; exact HI0.out), HKD⟩
    case round =>
      obtain ⟨k, hk, rfl, HC, HDC⟩ := hrel
      by_cases hlt : k < r
      · have hkR : k < R.length := by rw [HR.out]; exact hlt
        have hzl : k < (wasL F R).length := by rw [wasL_len]; exact hkR
        obtain ⟨⟨at_, X, Y⟩, hz⟩ : ∃ z, (wasL F R)[k] = z := ⟨_, rfl⟩
        obtain ⟨hx1, hx2, hx3⟩ := HWas.out (wasL F R)[k] (List.getElem_mem hzl)
        rw [hz] at hx1 hx2 hx3
        simp only at hx1 hx2 hx3
        have hwz : R[k] = (at_, Y) := by
          have h1 := wasL_at R F k hkR
          rw [List.getElem?_eq_getElem hzl, hz] at h1
          injection h1 with h1
          injection h1 with h2 h3
          injection h3 with _ h4
          rw [h2, h4]
        have HKT := hidD_ (kept_take R S k hkR)
        rw [hwz] at HKT
        obtain ⟨g, hA⟩ : ∃ g, A = some ⟨g, 0, none⟩ := by
          rcases HC.out.lo.2 with ⟨_, h0⟩ | ⟨g, _, _, hv, _⟩
          · omega
          · injection hv with e1
            exact ⟨g, e1⟩
        subst hA
        have hcells : ∀ j, j < (wrR (at_, X, Y)).size → wr.cell? ⟨g, k * 129 + j, none⟩ = (wrR (at_, X, Y))[j]? := fun j hj => by
          rw [wrR_size _ hx2 hx3] at hj
          rw [World.ownsRow.cellAt HC.out.lo (k * 129 + j) (by omega), flatC_at _ k j hzl (fun x hx => wrR_size x (HWas.out x hx).2.1 (HWas.out x hx).2.2) hj, hz]
        have HCC := hidD_ hcells
        have HIW := hidD_ (iWr (at_, X, Y) hx2 hx3)
        have hzw := zeroWr wr
        obtain ⟨Bx, hBx⟩ : ∃ g, wr.heap.size = g := ⟨_, rfl⟩
        have HBX := hidD_ hBx
        obtain ⟨wa, hwa⟩ : ∃ W2, wr.alloc (.cells (wrR (0, zsec, zsec)) 86) = W2 := ⟨_, rfl⟩
        have KA := hidD_ (show Bk wa Bx 86 (wrR (0, zsec, zsec)) by rw [← hwa, ← hBx]; exact Bk.new wr _ _)
        have BA := hidD_ (show Below wr.heap.size wr wa by rw [← hwa]; exact (Below.refl _ _).alloc (Nat.le_refl _) _)
        have HX3 := hidD_ hx3
        have HX2 := hidD_ hx2
        have HX1 := hidD_ hx1
        have t0 : (0 : Int) ≤ (k : Int) := by omega
        have tn : (k : Int) < (r : Int) := by omega
        have d1 : decide ((k : Int) < (r : Int)) = true := decide_eq_true tn
        clear hz hwz hx2 hx3 hcells hx1 hzl
        by_cases hkn : k < ns
        · obtain ⟨blk, o, hA0, _⟩ := HST.out wr HC.out.be HC.out.un k hkn
          subst hA0
          have HC9 := hidD_ (show ∀ W, Below b0 w W → UnT dkT w W → W.cell? ⟨blk, o + k, none⟩ = some (.bool (S.getD k false)) from fun W x y => by
            obtain ⟨blk', o', e', hc⟩ := HST.out W x y k hkn
            injection e' with e'
            injection e' with e1 e2
            subst e1 e2
            exact hc)
          have d2 : decide ((k : Int) < (ns : Int)) = true := decide_eq_true (by omega)
          have tns : (k : Int) < (ns : Int) := by omega
          obtain ⟨bo, hbo⟩ : ∃ b, S.getD k false = b := ⟨_, rfl⟩
          rw [hbo] at HC9 HKT
          cases bo with
          | true =>
          have HNX := hidD_ (show (appl F (kept (R.take k) S)).set at_ Y = appl F (kept (R.take (k + 1)) S) by rw [HKT.out, if_pos rfl, appl_snoc])
          clear hkn hbo
          go_upto_region 9 with (first
            | (refine wpList_load_sub rfl 86 (.tmp 35) rfl g (k * 129) rfl (wrR (at_, X, Y)) HCC.out _ Try.underlying86 rfl HIW.out ?_)
            | (refine wpList_put_row rfl 86 (.tmp 7) (.tmp 36) rfl Bx (wrR (at_, X, Y)) rfl rfl 86 (wrR (0, zsec, zsec)) KA.out HIW.out (by rw [wrR_size _ zsec_len zsec_len, wrR_size _ HX2.out HX3.out]) (wrR_all _) ?_; intro w9 k9 g9 s9; have K9 := hidD_ k9; have X9 := hidD_ (BA.out.grown g9 BA.out.size (fun k e => by injection e with e; have := HBX.out; omega)); clear k9 g9 s9; have C9 := hidD_ (HC.out.below HB0.out X9.out); have hc9 := HC9.out w9 C9.out.be C9.out.un))
          clear hc9
          obtain ⟨wd, hwd⟩ : ∃ W3, { w9 with drawn := w9.drawn + 1 } = W3 := ⟨_, rfl⟩
          have HO := hidD_ (show CrI b0 w wd p q n g0 (.slice (some ⟨g, 0, none⟩) r c) fu off r (wasL F R) (appl F (kept (R.take k) S)) by rw [← hwd]; exact C9.out.drew)
          have HX := hidD_ (show Bk wd Bx 86 (wrR (at_, X, Y)) by rw [← hwd]; exact K9.out)
          have HQ := hidD_ (wrR_cells (at_, X, Y) HX2.out HX3.out)
          have HI := hidD_ (iSec Y HX3.out)
          have hS64 : ∀ D ∈ appl F (kept (R.take k) S), D.length = 64 := appl_all _ _ HV.out.F64 fun x hx => (HV.out.hR x (List.mem_of_mem_take (kept_mem _ _ _ hx))).2
          have hSl : at_ < (appl F (kept (R.take k) S)).length := by rw [appl_len, HV.out.hF]; exact HX1.out
          have HSET := hidD_ (sec_set hS64 at_ hSl Y HX3.out)
          have HSZ := hidD_ (sec_size hS64 at_ hSl Y HX3.out)
          have HDD := hidD_ (show wd.heap[D]? = some (.deferred (some [])) by rw [← hwd]; exact (X9.out.block D (Array.getElem?_eq_some_iff.1 HDC.out).1).trans HDC.out)
          have HWD := hidD_ hwd
          have t1 : (0 : Int) ≤ (at_ : Int) := by omega
          have tn1 : (at_ : Int) < (n : Int) := by have := HX1.out; omega
          clear hS64 hSl hwd
          refine region_byJF [47, 48, 49, 50, 51, 52, 53, 54, 55] (fun _ => True) (fun _ _ => True) (fun jj v _ => CsR p q n Bx at_ 65 Y jj v) (fun D2 a W3 => PhJ dpsC 9 (fun W3 => W3 = wd) (fun W3 => W3 = wd.setRow q (flatC rowOf ((appl F (kept (R.take k) S)).set at_ Y)).toArray) D2 a W3) (by kernel_rfl) (by kernel_rfl) (by kernel_rfl) (by kernel_rfl) (fun j v w w' hT hr => ?_) (fun j v w hlt hj _ => ?_) trivial ?_ (by rw [HWD.out]; exact PhJ.start rfl) ?_
          · exact hr
          · rcases j with _ | _ | _ | _ | _ | _ | _ | _ | _ | _ | j
            all_goals first
              | (exfalso; simp [dstOf] at hj; done)
              | trivial
          · refine ⟨fun D2 a W3 hC hd hsz hf hv hJ hL hW K hK => ?_, fun D2 a W3 hC hd hsz hf hv hJ hL hW K hK => ?_, fun D2 a W3 hC hd hsz hf hv hJ hL hW K hK => ?_, fun D2 a W3 hC hd hsz hf hv hJ hL hW K hK => ?_, fun D2 a W3 hC hd hsz hf hv hJ hL hW K hK => ?_, fun D2 a W3 hC hd hsz hf hv hJ hL hW K hK => ?_, fun D2 a W3 hC hd hsz hf hv hJ hL hW K hK => ?_, fun D2 a W3 hC hd hsz hf hv hJ hL hW K hK => ?_, fun D2 a W3 hC hd hsz hf hv hJ hL hW K hK => ?_, fun D2 a W3 hC hd hsz hf hv hJ hL hW K hK => ?_, trivial⟩
            · clear hsz
              have e1 := slot_of (a := a) (s := 2) (v := .pointer (some ⟨g0, 0, none⟩)) (hf 2 (by kernel_rfl))
              have hw := hJ.get 0 [1, 2, 3, 8, 9] rfl rfl hL
              subst hw
              have cc := HO.out.bg.cell 0
              simp only [List.getElem?_toArray, List.getElem?_cons_zero] at cc
              refine step_run (wanted_none rfl) (v := .pointer (some ⟨p, 0, none⟩)) (w' := W3) ?_ (hK _ _ trivial trivial rfl (hJ.same 0 (by decide) ls0))
              go_simp
            · clear hsz
              have e1 := slot_of (a := a) (s := 47) (v := .pointer (some ⟨p, 0, none⟩)) (hv 0 (by kernel_rfl))
              refine step_run (wanted_none rfl) (v := .pointer (some ⟨p, 0, none⟩)) (w' := W3) ?_ (hK _ _ trivial trivial rfl (hJ.same 1 (by decide) (ls1 (hW 0 (by kernel_rfl)))))
              go_simp
            · clear hsz
              have e1 := slot_of (a := a) (s := 48) (v := .pointer (some ⟨p, 0, none⟩)) (hv 1 (by kernel_rfl))
              refine step_run (wanted_none rfl) (v := .pointer (some ⟨p, 0, none⟩)) (w' := W3) ?_ (hK _ _ trivial trivial rfl (hJ.same 2 (by decide) (ls1 (hW 1 (by kernel_rfl)))))
              go_simp
            · clear hsz
              have e1 := slot_of (a := a) (s := 49) (v := .pointer (some ⟨p, 0, none⟩)) (hv 2 (by kernel_rfl))
              have hw := hJ.get 3 [8, 9] rfl rfl hL
              subst hw
              have cc := HO.out.bp.cell 0
              simp only [List.getElem?_toArray, List.getElem?_cons_zero] at cc
              refine step_run (wanted_none rfl) (v := .slice (some ⟨q, 0, none⟩) n n) (w' := W3) ?_ (hK _ _ trivial trivial rfl (hJ.same 3 (by decide) (ls1 (hW 2 (by kernel_rfl)))))
              go_simp
            · clear hsz
              have e1 := slot_of (a := a) (s := 7) (v := .pointer (some ⟨Bx, 0, none⟩)) (hf 7 (by kernel_rfl))
              refine step_run (wanted_none rfl) (v := .pointer (some ⟨Bx, 0, none⟩)) (w' := W3) ?_ (hK _ _ trivial trivial rfl (hJ.same 4 (by decide) ls0))
              go_simp
            · clear hsz
              have e1 := slot_of (a := a) (s := 51) (v := .pointer (some ⟨Bx, 0, none⟩)) (hv 4 (by kernel_rfl))
              have hw := hJ.get 5 [8, 9] rfl rfl hL
              subst hw
              have cc := (HX.out.cell 0).trans HQ.out.1
              refine step_run (wanted_none rfl) (v := .int .i64 (at_ : Int)) (w' := W3) ?_ (hK _ _ trivial trivial rfl (hJ.same 5 (by decide) (ls1 (hW 4 (by kernel_rfl)))))
              go_simp
            · clear hsz
              have e1 := slot_of (a := a) (s := 7) (v := .pointer (some ⟨Bx, 0, none⟩)) (hf 7 (by kernel_rfl))
              refine step_run (wanted_none rfl) (v := .pointer (some ⟨Bx, 65, none⟩)) (w' := W3) ?_ (hK _ _ trivial trivial rfl (hJ.same 6 (by decide) ls0))
              go_simp
            · clear hsz
              have hw := hJ.get 7 [9] rfl rfl hL
              subst hw
              refine step_load_sub (wanted_none rfl) 58 (.tmp 53) rfl Bx 65 (eval_of (hv 6 (by kernel_rfl))) (rowOf Y) (fun j hj => (HX.out.cell _).trans (HQ.out.2.2 j hj)) _ Try.underlying58 rfl HI.out ?_
              exact hK _ _ trivial trivial rfl (hJ.same 7 (by decide) (ls1 (hW 6 (by kernel_rfl))))
            · clear hsz
              have e1 := slot_of (a := a) (s := 50) (v := .slice (some ⟨q, 0, none⟩) n n) (hv 3 (by kernel_rfl))
              have e2 := slot_of (a := a) (s := 52) (v := .int .i64 (at_ : Int)) (hv 5 (by kernel_rfl))
              refine step_run (wanted_none rfl) (v := .pointer (some ⟨q, at_ * 64, none⟩)) (w' := W3) ?_ (hK _ _ trivial trivial rfl (hJ.same 8 (by decide) (ls2 (hW 3 (by kernel_rfl)) (hW 5 (by kernel_rfl)))))
              go_simp
            · clear hsz
              have hw := hJ.old hL
              subst hw
              refine step_store_mid (wanted_none rfl) 58 (.tmp 55) (.tmp 54) rfl q (at_ * 64) (eval_of (hv 8 (by kernel_rfl))) (rowOf Y) (eval_of (hv 7 (by kernel_rfl))) 58 _ HO.out.bq HI.out HSZ.out (rowOf_ones _) ?_
              rw [HSET.out]
              exact hK undef _ trivial trivial trivial (hJ.store (ls2 (hW 8 (by kernel_rfl)) (hW 7 (by kernel_rfl))) rfl)
          · intro f wy hC5 hv5 L3 hL3 hJ3
            obtain ⟨aE, hJ, hfr⟩ := hJ3
            have e5 := hJ.fin (hL3 9 (by decide))
            subst e5
            have C3 := HO.out.put HB0.out HV.out.hq ((appl F (kept (R.take k) S)).set at_ Y)
            have DW := (setRow_other wd q D (flatC rowOf ((appl F (kept (R.take k) S)).set at_ Y)).toArray (fun e => by have h1 := HO.out.bq; rw [← e] at h1; unfold Bk at h1; rw [HDD.out] at h1; cases h1)).trans HDD.out
            rw [HNX.out] at C3 DW ⊢
            have HC3 := hidD_ C3
            have HDW := hidD_ DW
            simp only [framed, List.foldl_cons, List.foldl_nil, List.setIfInBounds_toArray, List.set_cons_succ, List.set_cons_zero]
            clear hv5 hC5 hJ hfr hL3 C3 DW
            rename_i Kd hKd
            refine hKd _ _ ?_
            generalize wd.setRow q (flatC rowOf (appl F (kept (R.take (k + 1)) S))).toArray = wy at *
            go_wp2
            go_roundw
            case rel => exact ⟨k + 1, by omega, by go_num, HC3, HDW⟩
            case measure => simp [intOf]; omega
          | false =>
          have HNX := hidD_ (show appl F (kept (R.take k) S) = appl F (kept (R.take (k + 1)) S) by rw [HKT.out, if_neg (by simp), List.append_nil])
          clear hkn hbo
          go_wp2_with (first
            | (refine wpList_load_sub rfl 86 (.tmp 35) rfl g (k * 129) rfl (wrR (at_, X, Y)) HCC.out _ Try.underlying86 rfl HIW.out ?_)
            | (refine wpList_put_row rfl 86 (.tmp 7) (.tmp 36) rfl Bx (wrR (at_, X, Y)) rfl rfl 86 (wrR (0, zsec, zsec)) KA.out HIW.out (by rw [wrR_size _ zsec_len zsec_len, wrR_size _ HX2.out HX3.out]) (wrR_all _) ?_; intro w9 k9 g9 s9; have K9 := hidD_ k9; have X9 := hidD_ (BA.out.grown g9 BA.out.size (fun k e => by injection e with e; have := HBX.out; omega)); clear k9 g9 s9; have C9 := hidD_ (HC.out.below HB0.out X9.out); have hc9 := HC9.out w9 C9.out.be C9.out.un))
          go_roundw
          case rel => exact ⟨k + 1, by omega, by go_num, hidD_ (by rw [← HNX.out]; exact C9.out), hidD_ ((X9.out.block D (Array.getElem?_eq_some_iff.1 HDC.out).1).trans HDC.out)⟩
          case measure => simp [intOf]; omega
        · have hbo : S.getD k false = false := by simp [List.getD, List.getElem?_eq_none (show S.length ≤ k by omega)]
          rw [hbo] at HKT
          have HNX := hidD_ (show appl F (kept (R.take k) S) = appl F (kept (R.take (k + 1)) S) by rw [HKT.out, if_neg (by simp), List.append_nil])
          have d2 : decide ((k : Int) < (ns : Int)) = false := decide_eq_false (by omega)
          have d3 : decide (k < ns) = false := decide_eq_false hkn
          have d4 : (ns : Int) ≤ (k : Int) := by omega
          clear hbo
          go_wp2_with (first
            | (refine wpList_load_sub rfl 86 (.tmp 35) rfl g (k * 129) rfl (wrR (at_, X, Y)) HCC.out _ Try.underlying86 rfl HIW.out ?_)
            | (refine wpList_put_row rfl 86 (.tmp 7) (.tmp 36) rfl Bx (wrR (at_, X, Y)) rfl rfl 86 (wrR (0, zsec, zsec)) KA.out HIW.out (by rw [wrR_size _ zsec_len zsec_len, wrR_size _ HX2.out HX3.out]) (wrR_all _) ?_; intro w9 k9 g9 s9; have K9 := hidD_ k9; have X9 := hidD_ (BA.out.grown g9 BA.out.size (fun k e => by injection e with e; have := HBX.out; omega)); clear k9 g9 s9; have C9 := hidD_ (HC.out.below HB0.out X9.out)))
          go_roundw
          case rel => exact ⟨k + 1, by omega, by go_num, hidD_ (by rw [← HNX.out]; exact C9.out), hidD_ ((X9.out.block D (Array.getElem?_eq_some_iff.1 HDC.out).1).trans HDC.out)⟩
          case measure => simp [intOf]; omega
      · obtain rfl : k = r := by omega
        have d1 : decide ((k : Int) < (k : Int)) = false := decide_eq_false (by omega)
        go_upto_region 11 with fail
        have HT := hidD_ (show R.take k = R from List.take_of_length_le (by rw [HR.out]; omega))
        rw [HT.out] at HC
        obtain ⟨wd, hwd⟩ : ∃ W3, { wr with drawn := wr.drawn + 1 } = W3 := ⟨_, rfl⟩
        have HO := hidD_ (show CrI b0 w wd p q n g0 (.slice A k c) fu off k (wasL F R) (appl F (kept R S)) by rw [← hwd]; exact HC.out.drew)
        have HDD := hidD_ (show wd.heap[D]? = some (.deferred (some [])) by rw [← hwd]; exact HDC.out)
        have HGP := hidD_ (show g0 ≠ p from HO.out.bg.neT HO.out.bp (by decide))
        have HWD := hidD_ hwd
        clear hwd
        refine region_byJF [57, 58, 59, 60, 61, 62, 63, 64, 65] (fun _ => True) (fun _ _ => True) (fun jj v _ => ThR p g0 jj v) (fun D2 a W3 => ThJ wd p q n (.slice A k c) fu off 5 8 11 D2 W3) (by kernel_rfl) (by kernel_rfl) (by kernel_rfl) (by kernel_rfl) (fun j v w w' hT hr => ?_) (fun j v w hlt hj _ => ?_) trivial ?_ (by rw [HWD.out]; exact ⟨HO.out.bp, World.grownBy.refl _ _⟩) ?_
        · exact hr
        · rcases j with _ | _ | _ | _ | _ | _ | _ | _ | _ | _ | _ | _ | j
          all_goals first
            | (exfalso; simp [dstOf] at hj; done)
            | trivial
        · refine ⟨fun D2 a W3 hC hd hsz hf hv hJ hL hW K hK => ?_, fun D2 a W3 hC hd hsz hf hv hJ hL hW K hK => ?_, fun D2 a W3 hC hd hsz hf hv hJ hL hW K hK => ?_, fun D2 a W3 hC hd hsz hf hv hJ hL hW K hK => ?_, fun D2 a W3 hC hd hsz hf hv hJ hL hW K hK => ?_, fun D2 a W3 hC hd hsz hf hv hJ hL hW K hK => ?_, fun D2 a W3 hC hd hsz hf hv hJ hL hW K hK => ?_, fun D2 a W3 hC hd hsz hf hv hJ hL hW K hK => ?_, fun D2 a W3 hC hd hsz hf hv hJ hL hW K hK => ?_, fun D2 a W3 hC hd hsz hf hv hJ hL hW K hK => ?_, fun D2 a W3 hC hd hsz hf hv hJ hL hW K hK => ?_, fun D2 a W3 hC hd hsz hf hv hJ hL hW K hK => ?_, trivial⟩
          · clear hsz
            have e1 := slot_of (a := a) (s := 2) (v := .pointer (some ⟨g0, 0, none⟩)) (hf 2 (by kernel_rfl))
            have hbg := (HO.out.bg.grown hJ.gr (fun e => by injection e with e; exact HGP.out e)).cell 0
            simp only [List.getElem?_toArray, List.getElem?_cons_zero] at hbg
            refine step_run (wanted_none rfl) (v := .pointer (some ⟨p, 0, none⟩)) (w' := W3) ?_ (hK _ _ trivial trivial rfl (hJ.same 0 (by decide)))
            go_simp
          · clear hsz
            have e1 := slot_of (a := a) (s := 2) (v := .pointer (some ⟨g0, 0, none⟩)) (hf 2 (by kernel_rfl))
            have hbg := (HO.out.bg.grown hJ.gr (fun e => by injection e with e; exact HGP.out e)).cell 0
            simp only [List.getElem?_toArray, List.getElem?_cons_zero] at hbg
            refine step_run (wanted_none rfl) (v := .pointer (some ⟨p, 0, none⟩)) (w' := W3) ?_ (hK _ _ trivial trivial rfl (hJ.same 1 (by decide)))
            go_simp
          · clear hsz
            have e1 := slot_of (a := a) (s := 2) (v := .pointer (some ⟨g0, 0, none⟩)) (hf 2 (by kernel_rfl))
            have hbg := (HO.out.bg.grown hJ.gr (fun e => by injection e with e; exact HGP.out e)).cell 0
            simp only [List.getElem?_toArray, List.getElem?_cons_zero] at hbg
            refine step_run (wanted_none rfl) (v := .pointer (some ⟨p, 0, none⟩)) (w' := W3) ?_ (hK _ _ trivial trivial rfl (hJ.same 2 (by decide)))
            go_simp
          · clear hsz
            have e1 := slot_of (a := a) (s := 57) (v := .pointer (some ⟨p, 0, none⟩)) (hv 0 (by kernel_rfl))
            refine step_run (wanted_none rfl) (v := .pointer (some ⟨p, 0, none⟩)) (w' := W3) ?_ (hK _ _ trivial trivial rfl (hJ.same 3 (by decide)))
            go_simp
          · clear hsz
            have e1 := slot_of (a := a) (s := 60) (v := .pointer (some ⟨p, 0, none⟩)) (hv 3 (by kernel_rfl))
            refine step_run (wanted_none rfl) (v := .pointer (some ⟨p, 1, none⟩)) (w' := W3) ?_ (hK _ _ trivial trivial rfl (hJ.same 4 (by decide)))
            go_simp
          · clear hsz
            have e1 := slot_of (a := a) (s := 61) (v := .pointer (some ⟨p, 1, none⟩)) (hv 4 (by kernel_rfl))
            have cc := hJ.bp.cell 1
            have cf := hJ.bp.frozen 1
            simp only [List.getElem?_toArray, List.getElem?_cons_zero, List.getElem?_cons_succ] at cc
            refine step_skip (wanted_none rfl) (w' := W3.setCell ⟨p, 1, none⟩ (.slice none 0 0)) ?_ (hK undef _ trivial trivial trivial (hJ.s1 (by decide)))
            go_simp
          · clear hsz
            have e1 := slot_of (a := a) (s := 58) (v := .pointer (some ⟨p, 0, none⟩)) (hv 1 (by kernel_rfl))
            refine step_run (wanted_none rfl) (v := .pointer (some ⟨p, 0, none⟩)) (w' := W3) ?_ (hK _ _ trivial trivial rfl (hJ.same 6 (by decide)))
            go_simp
          · clear hsz
            have e1 := slot_of (a := a) (s := 62) (v := .pointer (some ⟨p, 0, none⟩)) (hv 6 (by kernel_rfl))
            refine step_run (wanted_none rfl) (v := .pointer (some ⟨p, 2, none⟩)) (w' := W3) ?_ (hK _ _ trivial trivial rfl (hJ.same 7 (by decide)))
            go_simp
          · clear hsz
            have e1 := slot_of (a := a) (s := 63) (v := .pointer (some ⟨p, 2, none⟩)) (hv 7 (by kernel_rfl))
            have cc := hJ.bp.cell 2
            have cf := hJ.bp.frozen 2
            simp only [List.getElem?_toArray, List.getElem?_cons_zero, List.getElem?_cons_succ] at cc
            refine step_skip (wanted_none rfl) (w' := W3.setCell ⟨p, 2, none⟩ (.int .i64 0)) ?_ (hK undef _ trivial trivial trivial (hJ.s2 (by decide)))
            go_simp
          · clear hsz
            have e1 := slot_of (a := a) (s := 59) (v := .pointer (some ⟨p, 0, none⟩)) (hv 2 (by kernel_rfl))
            refine step_run (wanted_none rfl) (v := .pointer (some ⟨p, 0, none⟩)) (w' := W3) ?_ (hK _ _ trivial trivial rfl (hJ.same 9 (by decide)))
            go_simp
          · clear hsz
            have e1 := slot_of (a := a) (s := 64) (v := .pointer (some ⟨p, 0, none⟩)) (hv 9 (by kernel_rfl))
            refine step_run (wanted_none rfl) (v := .pointer (some ⟨p, 3, none⟩)) (w' := W3) ?_ (hK _ _ trivial trivial rfl (hJ.same 10 (by decide)))
            go_simp
          · clear hsz
            have e1 := slot_of (a := a) (s := 65) (v := .pointer (some ⟨p, 3, none⟩)) (hv 10 (by kernel_rfl))
            have cc := hJ.bp.cell 3
            have cf := hJ.bp.frozen 3
            simp only [List.getElem?_toArray, List.getElem?_cons_zero, List.getElem?_cons_succ] at cc
            refine step_skip (wanted_none rfl) (w' := W3.setCell ⟨p, 3, none⟩ (.bool false)) ?_ (hK undef _ trivial trivial trivial (hJ.s3 (by decide)))
            go_simp
        · intro f wy hC5 hv5 L3 hL3 hJ3
          obtain ⟨aE, hJ, hfr⟩ := hJ3
          have hbp := hJ.bp
          rw [if_pos (hL3 5 (by decide)), if_pos (hL3 8 (by decide)), if_pos (hL3 11 (by decide))] at hbp
          have hgr := hJ.gr
          have hDD := (hgr.block D (Array.getElem?_eq_some_iff.1 HDD.out).1 (fun e => by injection e with e; have h1 := HO.out.bp; rw [← e] at h1; unfold Bk at h1; rw [HDD.out] at h1; cases h1)).trans HDD.out
          have hX : DkV b0 wy p q n (appl F (kept R S)) [] (.slice none 0 0) 0 false := ⟨HV.out.hp, HV.out.hq, HV.out.n1, HV.out.n2, by rw [appl_len]; exact HV.out.hF, appl_all _ _ HV.out.F64 (fun x hx => (HV.out.hR x (kept_mem _ _ _ hx)).2), fun _ hx => (by cases hx), by omega, hbp, World.ownsRow_nil _ _ _ _, HO.out.bq.grown hgr (fun e => by injection e with e; exact HO.out.bq.neT HO.out.bp (by decide) e)⟩
          have hBe := HO.out.be.grown hgr (Nat.le_trans HB0.out HO.out.un.1) (fun k e => by injection e with e; subst e; exact HV.out.hp)
          have hUn := HO.out.un.trans (UnT.of_grown hgr fun k e => by injection e with e; subst e; exact ⟨_, _, _, HO.out.bp, by simp [dkT]⟩)
          have hg := grownBy_putObj' wy D (.deferred none)
          have hr : ∀ r, some D = some r → D ≤ r ∧ ∃ o : Obj, wy.heap[r]? = some o ∧ o.isCells = false := fun r e => by injection e with e; subst e; exact ⟨Nat.le_refl _, _, hDD, rfl⟩
          refine ⟨by simp, .inl ⟨_, _, rfl, run_takeDeferred hDD, ?_⟩⟩
          exact ⟨_, results_none rfl _ _ _, rfl, ⟨_, hX.hp, hX.hq, hX.n1, hX.n2, hX.hF, hX.F64, hX.hR, hX.hfu, hX.bp.turned hg hr, World.ownsRow_nil _ _ _ _, hX.bq.turned hg hr⟩, below_turned hBe (Nat.le_trans HB0.out HDS.out) (Nat.le_trans HB0.out hUn.1) hg hr, unt_turned hUn HDS.out hg hr⟩
  case stop =>
    rintro D c pre W _ _ h _
    exact h.elim
end
end Go.Proofs.Ytdlciehboimciaa
