/-
  Merged: Mob Moc.
-/
import Derived.Test.YtegfnlnbhhmkjaaDoorMA
import Derived.Test.YtegfnlnbhhmkjaaDoorG8
import Derived.Test.YtegfnlnbhhmkjaaDoorQt
namespace Go.Proofs.YtegfnlnbhhmkjaaDoor
set_option maxRecDepth 100000
open Go.RowKit
set_option linter.unusedVariables false
set_option linter.unusedSimpArgs false

theorem hidm_ {p : Prop} (h : p) : Hid p := h
section
variable {w w' : World} {g : Nat} {l : List UInt8} {bad wr : Bool} {F : List Nat}
theorem OutF.setw (h : OutF w g l bad wr F) (b : Bool) : OutF (w.setCell ⟨g, 3, none⟩ (.bool b)) g l bad b F ∧ Untouched F w (w.setCell ⟨g, 3, none⟩ (.bool b)) := by
  obtain ⟨hg, all, hb, hor⟩ := h
  refine ⟨⟨hg, all, hb.set_ 3 (.bool b), ?_⟩, Untouched.set g 3 hg _⟩
  rcases hor with h1 | ⟨h, A, c, e, hF, hne, hbk, ho, hown⟩
  · exact .inl h1
  · refine .inr ⟨h, A, c, e, hF, hne, hbk.far (p := ⟨g, 3, none⟩) hne _, ho.kept (grown_put (World.grownBy.refl w (some g)) 3 (.bool b)) ?_, hown⟩
    cases hv : (Value.slice A l.length c).ownBlock with
    | none => exact .inl rfl
    | some b => exact .inr (by have := (hown b hv).2.1; intro e; injection e with e; exact this e)
theorem OutF.wr_ (h : OutF w g l bad wr F) : w.cell? ⟨g, 3, none⟩ = some (.bool wr) ∧ w.frozen? ⟨g, 3, none⟩ = false := by
  obtain ⟨hg, all, hb, hor⟩ := h
  exact ⟨hb.cell 3, hb.frozen 3⟩
end
/-- Is it wrong behind this number? -/
def wrg (wr : Bool) (n most : Int) : Bool := wr || decide (n < 0) || decide (most < n)
set_option maxRecDepth 100000 in
set_option maxHeartbeats 1000000 in
theorem within_any (w : World) (g : Nat) (l : List UInt8) (wr : Bool) (F : List Nat) (n most : Int) (h : OutF w g l false wr F) :
    Calls Tryd.prog 54 #[.pointer (some ⟨g, 0, none⟩), .int .i64 n, .int .i64 most] w fun e w' => e = .returned (.bool (!(wrg wr n most))) ∧ OutF w' g l false (wrg wr n most) F ∧ Untouched F w w' := by
  obtain ⟨hc, hf⟩ := h.wr_
  obtain ⟨h1, h2⟩ := h.setw true
  obtain ⟨hc1, hf1⟩ := h1.wr_
  have H1 := hidm_ h1
  have H2 := hidm_ h2
  have H := hidm_ h
  clear h1 h2 h
  by_cases h0 : n < 0
  · have d0 : decide (n < 0) = true := decide_eq_true h0
    have e : wrg wr n most = true := by unfold wrg; rw [d0]; simp
    rw [e]
    go_enter Tryd.func54, Tryd.ntmps54
    go_wp2
    go_ret
    exact ⟨rfl, H1.out, H2.out⟩
  · have d0 : decide (n < 0) = false := decide_eq_false h0
    by_cases h1 : most < n
    · have d1 : decide (most < n) = true := decide_eq_true h1
      have e : wrg wr n most = true := by unfold wrg; rw [d0, d1]; simp
      rw [e]
      go_enter Tryd.func54, Tryd.ntmps54
      go_wp2
      go_ret
      exact ⟨rfl, H1.out, H2.out⟩
    · have d1 : decide (most < n) = false := decide_eq_false h1
      have e : wrg wr n most = wr := by unfold wrg; rw [d0, d1]; simp
      rw [e]
      go_enter Tryd.func54, Tryd.ntmps54
      go_wp2
      go_ret
      exact ⟨rfl, H.out, Untouched.refl _ _⟩
/-- The parts so far, or that one was beyond its bound. -/
def MoF (w : World) (g : Nat) (st : Option (List UInt8)) (b : Nat) (F : List Nat) : Prop :=
  ∃ l wr, OutF w g l false wr F ∧ l.length ≤ b ∧ (st = some l ∧ wr = false ∨ st = none ∧ wr = true)
def MoP (w : World) (g : Nat) (st : Option (List UInt8)) (b : Nat) (F : List Nat) (e : Ending) (w' : World) : Prop :=
  e = .returned (.tuple #[]) ∧ ∃ F', MoF w' g st b F' ∧ Grew w F F' ∧ Untouched F w w'
def smP (n most : Int) (st : Option (List UInt8)) : Option (List UInt8) := st.bind fun l => if 0 ≤ n ∧ n ≤ most then some (l ++ smallL n) else none
def nuP (n most : Int) (st : Option (List UInt8)) : Option (List UInt8) := st.bind fun l => if 0 ≤ n ∧ n ≤ most then some (l ++ numL n) else none
def fxP (m : List UInt8) (st : Option (List UInt8)) : Option (List UInt8) := st.bind fun l => some (l ++ m)
def krP (r : KrV) (st : Option (List UInt8)) : Option (List UInt8) := st.bind fun l => if r.set.length ≤ 1048576 then some (l ++ krB r) else none
theorem MoF.mono {w : World} {g : Nat} {st : Option (List UInt8)} {b c : Nat} {F : List Nat} (h : MoF w g st b F) (hb : b ≤ c) : MoF w g st c F := by
  obtain ⟨l, wr, h1, h2, h3⟩ := h
  exact ⟨l, wr, h1, by omega, h3⟩
theorem MoP.step {w w1 w2 : World} {g : Nat} {st : Option (List UInt8)} {b : Nat} {F F1 : List Nat} {e : Ending} (hg : Grew w F F1) (hu : Untouched F w w1) (h : MoP w1 g st b F1 e w2) : MoP w g st b F e w2 := by
  obtain ⟨he, F', h1, h2, h3⟩ := h
  exact ⟨he, F', h1, hg.trans hu.size h2, hu.trans hg h3⟩
set_option maxRecDepth 100000 in
set_option maxHeartbeats 2000000 in
theorem small_m (w : World) (g : Nat) (st : Option (List UInt8)) (b : Nat) (F : List Nat) (n most : Int) (h : MoF w g st b F) (hm : most ≤ 255) (hb : b + 1 ≤ 140737488355328) :
    Calls Tryd.prog 21 #[.pointer (some ⟨g, 0, none⟩), .int .i64 n, .int .i64 most] w (MoP w g (smP n most st) (b + 1) F) := by
  obtain ⟨l, wr, hO, hl, hst⟩ := h
  have cw := within_any w g l wr F n most hO
  by_cases hw : wrg wr n most = true
  · have e : smP n most st = none := by
      rcases hst with ⟨rfl, rfl⟩ | ⟨rfl, rfl⟩
      · unfold wrg at hw
        simp only [Bool.false_or, Bool.or_eq_true, decide_eq_true_eq] at hw
        show (if 0 ≤ n ∧ n ≤ most then _ else _) = _
        rw [if_neg (by omega)]
      · rfl
    rw [e]
    rw [hw] at cw
    simp only [Bool.not_true] at cw
    clear hO hst hw e
    go_enter Tryd.func21, Tryd.ntmps21
    go_wp2_with (go_at_call 54; ((with_reducible refine cw.mono ?_); clear cw; rintro e w1 ⟨rfl, h1, h2⟩; have H1 := hidm_ h1; have H2 := hidm_ h2; clear h1 h2))
    refine bodyPost_ret (results_none rfl _ _ _) rfl ?_
    exact ⟨rfl, F, ⟨l, true, H1.out, by omega, .inr ⟨rfl, rfl⟩⟩, Grew.refl _ _, H2.out⟩
  · have hw2 : wrg wr n most = false := by simpa using hw
    have hw3 := hw2
    unfold wrg at hw3
    simp only [Bool.or_eq_false_iff, decide_eq_false_iff_not] at hw3
    obtain ⟨⟨rfl, h0⟩, h1⟩ := hw3
    obtain ⟨k, rfl⟩ : ∃ k : Nat, n = (k : Int) := ⟨n.toNat, by omega⟩
    obtain rfl : st = some l := by rcases hst with ⟨h, _⟩ | ⟨_, h⟩; exact h; cases h
    have e : smP (k : Int) most (some l) = some (l ++ [UInt8.ofNat k]) := by
      show (if 0 ≤ (k : Int) ∧ (k : Int) ≤ most then some (l ++ smallL k) else _) = _
      rw [if_pos (by omega), smallL, if_pos (by omega), Int.toNat_natCast]
    rw [e]
    rw [hw2] at cw
    simp only [Bool.not_false] at cw
    have HL := hidm_ hl
    have HK : Hid (k < 256) := hidm_ (by omega)
    clear hO hst hw hw2 e hl h0 h1
    go_enter Tryd.func21, Tryd.ntmps21
    go_wp2_with (first
      | (go_at_call 54; ((with_reducible refine cw.mono ?_); clear cw; rintro e w1 ⟨rfl, h1, h2⟩; have H1 := hidm_ h1; have H2 := hidm_ h2; have cs := small_any w1 g l false false F k h1 HK.out (by have := HL.out; omega); clear h1 h2))
      | (go_at_call 55; ((with_reducible refine cs.mono ?_); clear cs; rintro e w2 ⟨rfl, F2, h3, h4, h5⟩; have H3 := hidm_ h3; have H4 := hidm_ h4; have H5 := hidm_ h5; clear h3 h4 h5)))
    refine bodyPost_ret (results_none rfl _ _ _) rfl ?_
    exact ⟨rfl, F2, ⟨_, false, H3.out, by have := HL.out; simp; omega, .inl ⟨rfl, rfl⟩⟩, (Grew.refl w F).trans H2.out.size H4.out, H2.out.trans (Grew.refl _ _) H5.out⟩
set_option maxRecDepth 100000 in
set_option maxHeartbeats 2000000 in
theorem num_m (w : World) (g : Nat) (st : Option (List UInt8)) (b : Nat) (F : List Nat) (n most : Int) (h : MoF w g st b F) (hm : most ≤ 9223372036854775807) (hb : b + 8 ≤ 140737488355328) :
    Calls Tryd.prog 22 #[.pointer (some ⟨g, 0, none⟩), .int .i64 n, .int .i64 most] w (MoP w g (nuP n most st) (b + 8) F) := by
  obtain ⟨l, wr, hO, hl, hst⟩ := h
  have cw := within_any w g l wr F n most hO
  by_cases hw : wrg wr n most = true
  · have e : nuP n most st = none := by
      rcases hst with ⟨rfl, rfl⟩ | ⟨rfl, rfl⟩
      · unfold wrg at hw
        simp only [Bool.false_or, Bool.or_eq_true, decide_eq_true_eq] at hw
        show (if 0 ≤ n ∧ n ≤ most then _ else _) = _
        rw [if_neg (by omega)]
      · rfl
    rw [e]
    rw [hw] at cw
    simp only [Bool.not_true] at cw
    clear hO hst hw e
    go_enter Tryd.func22, Tryd.ntmps22
    go_wp2_with (go_at_call 54; ((with_reducible refine cw.mono ?_); clear cw; rintro e w1 ⟨rfl, h1, h2⟩; have H1 := hidm_ h1; have H2 := hidm_ h2; clear h1 h2))
    refine bodyPost_ret (results_none rfl _ _ _) rfl ?_
    exact ⟨rfl, F, ⟨l, true, H1.out, by omega, .inr ⟨rfl, rfl⟩⟩, Grew.refl _ _, H2.out⟩
  · have hw2 : wrg wr n most = false := by simpa using hw
    have hw3 := hw2
    unfold wrg at hw3
    simp only [Bool.or_eq_false_iff, decide_eq_false_iff_not] at hw3
    obtain ⟨⟨rfl, h0⟩, h1⟩ := hw3
    obtain ⟨k, rfl⟩ : ∃ k : Nat, n = (k : Int) := ⟨n.toNat, by omega⟩
    obtain rfl : st = some l := by rcases hst with ⟨h, _⟩ | ⟨_, h⟩; exact h; cases h
    have e : nuP (k : Int) most (some l) = some (l ++ highB 8 k) := by
      show (if 0 ≤ (k : Int) ∧ (k : Int) ≤ most then some (l ++ numL k) else _) = _
      rw [if_pos (by omega), numL, if_neg (by omega), Int.toNat_natCast]
    rw [e]
    rw [hw2] at cw
    simp only [Bool.not_false] at cw
    have HL := hidm_ hl
    have HK : Hid (k ≤ 9223372036854775807) := hidm_ (by omega)
    clear hO hst hw hw2 e hl h0 h1
    go_enter Tryd.func22, Tryd.ntmps22
    go_wp2_with (first
      | (go_at_call 54; ((with_reducible refine cw.mono ?_); clear cw; rintro e w1 ⟨rfl, h1, h2⟩; have H1 := hidm_ h1; have H2 := hidm_ h2; have cs := num_any w1 g l false false F k h1 HK.out (by have := HL.out; omega); clear h1 h2))
      | (go_at_call 56; ((with_reducible refine cs.mono ?_); clear cs; rintro e w2 ⟨rfl, F2, h3, h4, h5⟩; have H3 := hidm_ h3; have H4 := hidm_ h4; have H5 := hidm_ h5; clear h3 h4 h5)))
    refine bodyPost_ret (results_none rfl _ _ _) rfl ?_
    exact ⟨rfl, F2, ⟨_, false, H3.out, by have := HL.out; simp [highB_len]; omega, .inl ⟨rfl, rfl⟩⟩, (Grew.refl w F).trans H2.out.size H4.out, H2.out.trans (Grew.refl _ _) H5.out⟩
set_option maxRecDepth 100000 in
theorem at_m (w : World) (g : Nat) (st : Option (List UInt8)) (b : Nat) (F : List Nat) (n : Int) (h : MoF w g st b F) (hb : b + 8 ≤ 140737488355328) :
    Calls Tryd.prog 26 #[.pointer (some ⟨g, 0, none⟩), .int .i64 n] w (MoP w g (nuP n 255 st) (b + 8) F) := by
  have c1 := num_m w g st b F n 255 h (by omega) hb
  go_enter Tryd.func26, Tryd.ntmps26
  go_wp2_with (go_at_call 22; ((with_reducible refine c1.mono ?_); clear c1; rintro e w1 ⟨rfl, h1⟩; have H1 := hidm_ h1; clear h1))
  refine bodyPost_ret (results_none rfl _ _ _) rfl ?_
  exact ⟨rfl, H1.out⟩
end Go.Proofs.YtegfnlnbhhmkjaaDoor

namespace Go.Proofs.YtegfnlnbhhmkjaaDoor
set_option maxRecDepth 100000
open Go.RowKit
set_option linter.unusedVariables false
set_option linter.unusedSimpArgs false

theorem fixed_new (w w1 : World) (g : Nat) (l : List UInt8) (bad wr : Bool) (F : List Nat) (A : Option Addr) (n c : Nat) (m : List UInt8) (h : OutF w g l bad wr F) (hb : Below w.heap.size w w1) (hr : Rd w1 w1.heap.size A m) (hA : ∀ a, A = some a → w.heap.size ≤ a.block) (hm : m.length = n) (hs : l.length + n ≤ 140737488355328) :
    Calls Tryd.prog 57 #[.pointer (some ⟨g, 0, none⟩), .slice A n c] w1 (OutP w g (l ++ m) bad wr F) :=
  (fixed_any w1 g l bad wr (trim w F) A n c m (h.trim.below hb) (rdf_new hr hA) hm hs).mono fun e w' hh => OutP.untrim (hh.from (.of_below hb))
theorem rd_bkm {w : World} {g : Nat} {t : TypeId} {l : List UInt8} {r : List Value} (h : Bk w g t ((rowOf l).toList ++ r).toArray) : Rd w w.heap.size (some ⟨g, 0, none⟩) l := fun _ => ⟨g, 0, rfl, h.lt, fun j hj => by
  rw [Nat.zero_add, h.cell j, List.getElem?_toArray, List.getElem?_append_left (by simpa [rowOf] using hj), Array.getElem?_toList]
  exact rowOf_at l j hj⟩
theorem rd_bk0 {w : World} {g : Nat} {t : TypeId} {l : List UInt8} (h : Bk w g t (rowOf l)) : Rd w w.heap.size (some ⟨g, 0, none⟩) l := fun _ => ⟨g, 0, rfl, h.lt, fun j hj => by rw [Nat.zero_add]; exact (h.cell j).trans (rowOf_at l j hj)⟩
theorem size32m (W : World) : (sizeOf (Tryd.prog.elem 22)).run Tryd.prog W = .ok 1 W := by
  have he : Tryd.prog.elem 22 = 5 := by kernel_rfl
  rw [he]
  obtain ⟨i, hi, hz, hsize, hby⟩ := info_parts info8
  simp [sizeOf, typeInfo, hi, hsize]
theorem sizeBm (W : World) : (sizeOf (Tryd.prog.elem 23)).run Tryd.prog W = .ok 1 W := by
  have he : Tryd.prog.elem 23 = 5 := by kernel_rfl
  rw [he]
  obtain ⟨i, hi, hz, hsize, hby⟩ := info_parts info8
  simp [sizeOf, typeInfo, hi, hsize]
theorem slice_all32m (g o : Nat) (W : World) :
    (Instr.sliceAt 22 (.pointer (some ⟨g, o, none⟩)) none none none).run Tryd.prog W = .ok (.slice (some ⟨g, o, none⟩) 32 32) W := by
  have he : Tryd.prog.elem 22 = 5 := by kernel_rfl
  have hn : Tryd.prog.arrayLen 22 = 32 := by kernel_rfl
  have ht : Tryd.prog.underlying 22 = some (.array (Tryd.prog.arrayLen 22) (Tryd.prog.elem 22)) := by rw [he, hn]; exact Tryd.underlying22
  rw [run_sliceAt_array_all W 22 ⟨g, o, none⟩ ht, size32m, hn]
  rfl
theorem slice_allBm (g o : Nat) (W : World) :
    (Instr.sliceAt 23 (.pointer (some ⟨g, o, none⟩)) none none none).run Tryd.prog W = .ok (.slice (some ⟨g, o, none⟩) 32 32) W := by
  have he : Tryd.prog.elem 23 = 5 := by kernel_rfl
  have hn : Tryd.prog.arrayLen 23 = 32 := by kernel_rfl
  have ht : Tryd.prog.underlying 23 = some (.array (Tryd.prog.arrayLen 23) (Tryd.prog.elem 23)) := by rw [he, hn]; exact Tryd.underlying23
  rw [run_sliceAt_array_all W 23 ⟨g, o, none⟩ ht, sizeBm, hn]
  rfl
theorem MoF.cell {w : World} {g : Nat} {st : Option (List UInt8)} {b : Nat} {F : List Nat} (h : MoF w g st b F) : ∃ wr, w.cell? ⟨g, 3, none⟩ = some (.bool wr) ∧ (wr = true ↔ st = none) := by
  obtain ⟨l, wr, h1, h2, h3⟩ := h
  refine ⟨wr, h1.wr_.1, ?_⟩
  rcases h3 with ⟨rfl, rfl⟩ | ⟨rfl, rfl⟩ <;> simp
theorem MoF.below {w w1 : World} {g : Nat} {st : Option (List UInt8)} {b : Nat} {F : List Nat} (h : MoF w g st b F) (hb : Below w.heap.size w w1) : MoF w1 g st b F := by
  obtain ⟨l, wr, h1, h2, h3⟩ := h
  exact ⟨l, wr, h1.below hb, h2, h3⟩
theorem OutF.inw {w : World} {g : Nat} {l : List UInt8} {bad wr : Bool} {F : List Nat} (h : OutF w g l bad wr F) : g < w.heap.size := by
  obtain ⟨_, all, hb, _⟩ := h
  exact hb.lt
set_option maxRecDepth 100000 in
set_option maxHeartbeats 2000000 in
theorem fixed_m (w : World) (g : Nat) (st : Option (List UInt8)) (b : Nat) (F : List Nat) (K : List UInt8) (hK : K.length = 32) (h : MoF w g st b F) (hb : b + 32 ≤ 140737488355328) :
    Calls Tryd.prog 24 #[.pointer (some ⟨g, 0, none⟩), .agg (rowOf K)] w (MoP w g (fxP K st) (b + 32) F) := by
  obtain ⟨w1, hw1⟩ : ∃ x, w.alloc (.cells (rowOf K) 22) = x := ⟨_, rfl⟩
  have B1 := show Below w.heap.size w w1 by rw [← hw1]; exact (Below.refl _ _).alloc (Nat.le_refl _) _
  have K1 := hidm_ (show Bk w1 w.heap.size 22 (rowOf K) by rw [← hw1]; exact Bk.new w _ _)
  obtain ⟨l, wr, hO, hl, hst⟩ := h
  have hc := (hO.below B1).wr_.1
  have HB := hidm_ B1
  have HO := hidm_ hO
  have HL := hidm_ hl
  clear B1 hO hl
  have HK := hidm_ hK
  clear hK
  cases wr
  case true =>
    obtain rfl : st = none := by rcases hst with ⟨_, h⟩ | ⟨h, _⟩; cases h; exact h
    go_enter Tryd.func24, Tryd.ntmps24
    go_wp2
    refine bodyPost_ret (results_none rfl _ _ _) rfl ?_
    exact ⟨rfl, F, ⟨l, true, HO.out.below HB.out, by have := HL.out; omega, .inr ⟨rfl, rfl⟩⟩, Grew.refl _ _, Untouched.of_below HB.out⟩
  case false =>
    obtain rfl : st = some l := by rcases hst with ⟨h, _⟩ | ⟨_, h⟩; exact h; cases h
    have hsl := fun W => slice_all32m w.heap.size 0 W
    obtain ⟨N, hN⟩ : ∃ x, w.heap.size = x := ⟨_, rfl⟩
    have HN := hidm_ hN
    have KN := hidm_ (show Bk w1 N 22 (rowOf K) by rw [← hN]; exact K1.out)
    go_enter Tryd.func24, Tryd.ntmps24
    go_upto_region 2 with fail
    refine region_quiet_tail_lit 4 (by kernel_rfl) (by kernel_rfl) ?_
    simp only [List.take_succ_cons, List.take_zero]
    repeat (go_big_quiet_want; (first
      | (refine BigFrame.quiet_move _ rfl ?_; go_simp)
      | (refine quiet_run (.pointer (some ⟨g, 0, none⟩)) ?_ ?_; (focus (intro W hW; obtain ⟨nq, rfl⟩ := hW; go_simp; done)); go_simp)
      | (refine quiet_run (.slice (some ⟨N, 0, none⟩) 32 32) ?_ ?_; (focus (intro W hW; obtain ⟨nq, rfl⟩ := hW; go_simp; done)); go_simp)); go_big_quiet_on)
    refine wpQuiet_nil ?_
    intro w' hw'
    obtain ⟨nq, rfl⟩ := hw'
    simp only [List.drop_succ_cons, List.drop_zero]
    have BQ := hidm_ (show Below w.heap.size w (w1.drewN nq) from below_drewN HB.out nq)
    have cf := fixed_new w (w1.drewN nq) g l false false F (some ⟨N, 0, none⟩) 32 32 K HO.out BQ.out (rd_bk0 (KN.out.drewN nq)) (fun a e => by injection e with e; rw [← e, HN.out]; exact Nat.le_refl _) HK.out (by have := HL.out; omega)
    go_wp2_with (go_at_call 57; ((with_reducible refine cf.mono ?_); clear cf; rintro e w2 ⟨rfl, F2, h3, h4, h5⟩; have H3 := hidm_ h3; have H4 := hidm_ h4; have H5 := hidm_ h5; clear h3 h4 h5))
    refine bodyPost_ret (results_none rfl _ _ _) rfl ?_
    exact ⟨rfl, F2, ⟨_, false, H3.out, by have := HL.out; have := HK.out; simp; omega, .inl ⟨rfl, rfl⟩⟩, H4.out, H5.out⟩
end Go.Proofs.YtegfnlnbhhmkjaaDoor
